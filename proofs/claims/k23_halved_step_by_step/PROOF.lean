import PyProof.Rows.All
import Wide.All
import OpenK.AllK
import Wide.FinOn
import Lean
import KE.KRevIter
import KE.KPairComp
import KE.KIntText
import PyProof.NsDelKeeps
import PyProof.NeKinds
import KE.KNestM
import KE.KLam
import PyProof.EqAt
import PyProof.EqKinds
import PyProof.TupleCall
import PySem.Challenge.RW_halvedpictures_k23_halved_step_by_step
set_option Elab.async false
set_option linter.all false
set_option compiler.extract_closed false
set_option maxRecDepth 100000
theorem Rf0(h:True:=by rfl):True:=h
theorem De0(h:True:=by decide):True:=h
def r0:=Rf0._auto_1
def d0:=De0._auto_1
theorem Tj0(h:True:=by intro _;rfl):True:=h
def j0:=Tj0._auto_1
theorem Tk0(h:True:=by first | exact .inl rfl | exact .inr rfl | assumption):True:=h
def k0:=Tk0._auto_1
theorem Tu0(h:True:=by with_unfolding_all rfl):True:=h
def u0:=Tu0._auto_1
theorem Tv0(h:True:=by first | exact Or.inl rfl | exact Or.inr (Or.inl rfl) | exact Or.inr (Or.inr rfl)):True:=h
def v0:=Tv0._auto_1
abbrev Fg0:=PySem.W.Frag
abbrev Pn:=List (PySem.Addr×PySem.Obj)
abbrev VS:=PySem.Value->PySem.Shared->Prop
abbrev On:=List (Option Nat)
abbrev SV:=PySem.Str->Option PySem.Value
abbrev LL0:=List (List Int)
abbrev Li0:=List Int
abbrev La0:=List PySem.Addr
abbrev Lv0:=List PySem.Value
abbrev Ls0:=List PySem.Str
theorem lM0{α β:Type}{as:List α}(f:α->β):(as.map f).length=as.length:=List.length_map f
theorem gE0{α:Type}{l:List α}{i:Nat}(h:i<l.length):l[i]?=some l[i]:=List.getElem?_eq_getElem h
theorem gS0{α:Type}{l:List α}{i:Nat}{a:α}(h:l[i]?=some a):∃h:i<l.length,l[i]=a:=List.getElem?_eq_some_iff.mp h
set_option bootstrap.genMatcherCode false
namespace L2
open PySem PySem.Spec PyProof.Rows
abbrev Key:=Sum Int Str
noncomputable def Fo:Key->Value->Bool
 | .inl k,v=>Value.isInt k v
 | .inr x,v=>Value.isStrOf x v
noncomputable def NL (w:World):Key->Int
 | .inl k=>hashInt k
 | .inr x=>hashStr w x
theorem bR:∀ {k:Key} {v:Value},Fo k v=true->(∃ i t,k=Sum.inl i/\v=Value.int i t)\/(∃ x t,k=Sum.inr x/\v=Value.str x t)
 | .inl i,v,h=>by
  obtain⟨t,e⟩:=Value.isInt_shape (k:=i) (v:=v) h;exact .inl ⟨i,t,rfl,e⟩
 | .inr x,v,h=>by
  obtain⟨t,e⟩:=Value.isStrOf_shape (x:=x) (v:=v) h;exact .inr ⟨x,t,rfl,e⟩
theorem K7 (a b:Int):decide ((Sum.inl a:Key)=Sum.inl b)=(a == b):=by
 by_cases e:a=b
 ·subst e;simp
 ·have h:¬ (Sum.inl a:Key)=Sum.inl b:=fun q=>e (Sum.inl.inj q);rw[decide_eq_false h];exact(beq_eq_false_iff_ne.mpr e).symm
theorem K4 (a b:Str):decide ((Sum.inr a:Key)=Sum.inr b)=decide (a=b):=by
 by_cases e:a=b
 ·subst e;simp
 ·have h:¬ (Sum.inr a:Key)=Sum.inr b:=fun q=>e (Sum.inr.inj q);rw[decide_eq_false h,decide_eq_false e]
theorem K6 (a:Int) (b:Str):decide ((Sum.inl a:Key)=Sum.inr b)=false:=decide_eq_false (fun q=>nomatch q)
theorem K5 (a:Str) (b:Int):decide ((Sum.inr a:Key)=Sum.inl b)=false:=decide_eq_false (fun q=>nomatch q)
noncomputable def sy (prog:Program) (w:World):PySem.KeyKind prog w Key where
 is:=Fo
 hash:=NL w
 inj:=fun v a b ha hb=>by
  rcases bR ha with ⟨i,t,rfl,rfl⟩ | ⟨x,t,rfl,rfl⟩
  ·rcases bR hb with ⟨j,u,rfl,e⟩ | ⟨y,u,rfl,e⟩
   ·injection e with e1 _;rw[e1]
   ·exact nomatch e
  ·rcases bR hb with ⟨j,u,rfl,e⟩ | ⟨y,u,rfl,e⟩
   ·exact nomatch e
   ·injection e with e1 _;rw[e1]
 byValue:=fun k v h=>by
  rcases bR h with ⟨i,t,rfl,rfl⟩ | ⟨x,t,rfl,rfl⟩ <;> rfl
 pyHash:=fun hv h=>by
  rcases bR hv with ⟨i,t,rfl,rfl⟩ | ⟨x,t,rfl,rfl⟩
  ·exact wpAny_pyHash_int h
  ·exact wpAny_pyHash_str h
 eqBool:=fun hu hv h=>by
  rcases bR hu with ⟨i,t,rfl,rfl⟩ | ⟨x,t,rfl,rfl⟩
  ·rcases bR hv with ⟨j,u,rfl,rfl⟩ | ⟨y,u,rfl,rfl⟩
   ·rw[K7] at h;exact wpAny_eqBool_int h
   ·rw[K6] at h;exact SeqAt.EqAt.int_str i t y u _ _ _ _ h
  ·rcases bR hv with ⟨j,u,rfl,rfl⟩ | ⟨y,u,rfl,rfl⟩
   ·rw[K5] at h;exact SeqAt.EqAt.str_int x t j u _ _ _ _ h
   ·rw[K4] at h;exact wpAny_eqBool_str h
 «strs»:=fun k x t v h=>by
  rcases bR h with ⟨i,u,rfl,e⟩ | ⟨y,u,rfl,e⟩
  ·exact nomatch e
  ·injection e with e1 _
   subst e1;cases v <;> rfl
inductive V where
 | non | bl (b:Bool) | int (i:Int) | str (x:Str) | byt (b:Array UInt8) | flt (b:UInt64) | ref (a:Addr) | ty (n:String)
 deriving DecidableEq
def RelV:V->Value->Prop
 | .non,u=>u=Value.none
 | .bl b,u=>u=Value.bool b
 | .int i,u=>∃ t,u=Value.int i t
 | .str x,u=>∃ t,u=Value.str x t
 | .byt b,u=>∃ t,u=Value.bytes b t
 | .flt b,u=>∃ t,u=Value.float b t
 | .ref a,u=>u=Value.ref a
 | .ty n,u=>u=Value.type n
abbrev Vals:List V->Lv0->Prop:=Paired RelV
theorem Vals.length {xs:List V} {us:Lv0} (r:Vals xs us):xs.length=us.length:=Paired.length r
theorem Vals.get:∀ {xs:List V} {us:Lv0} {i:Nat} {x:V},Vals xs us->xs[i]?=some x->∃ u,us[i]?=some u/\RelV x u
 | _,_,_,_,.nil,e=>by simp at e
 | _,_,0,_,.cons r _,e=>by simp at e;subst e;exact⟨_,rfl,r⟩
 | _,_,i + 1,x,.cons _ t,e=>by
  obtain⟨u,h1,h2⟩:=Vals.get (i:=i) (x:=x) t (by simpa using e);exact⟨u,by simpa using h1,h2⟩
theorem Vals.set {x:V} {u:Value} (r:RelV x u):∀ {xs:List V} {us:Lv0} (i:Nat),Vals xs us->Vals (xs.set i x) (us.set i u)
 | _,_,_,.nil=>.nil
 | _,_,0,.cons _ t=>.cons r t
 | _,_,i + 1,.cons q t=>.cons q (Vals.set r i t)
theorem Vals.append:∀ {xs ys:List V} {us ws:Lv0},Vals xs us->Vals ys ws->Vals (xs++ys) (us++ws)
 | _,_,_,_,.nil,s=>s
 | _,_,_,_,.cons r t,s=>.cons r (Vals.append t s)
theorem Vals.take:∀ {xs:List V} {us:Lv0} (n:Nat),Vals xs us->Vals (xs.take n) (us.take n)
 | _,_,0,_=>.nil
 | _,_,_ + 1,.nil=>.nil
 | _,_,n + 1,.cons r t=>.cons r (Vals.take n t)
theorem Vals.drop:∀ {xs:List V} {us:Lv0} (n:Nat),Vals xs us->Vals (xs.drop n) (us.drop n)
 | _,_,0,r=>r
 | _,_,_ + 1,.nil=>.nil
 | _,_,n + 1,.cons _ t=>Vals.drop n t
theorem Vals.none_of:∀ {xs:List V} {us:Lv0} {i:Nat},Vals xs us->xs[i]?=none->us[i]?=none:=fun {xs us i} r e=>by
 have h1:=r.length;have h2:xs.length<=i:=List.getElem?_eq_none_iff.mp e;exact List.getElem?_eq_none_iff.mpr (by omega)
def uY:Option V->Option Value->Prop
 | some v,some u=>RelV v u
 | none,none=>True
 | _,_=>False
def KV {κ:Type}:List (κ×V)->List (κ×Value)->Prop:=Paired fun (p:κ×V) (q:κ×Value)=>p.1=q.1/\RelV p.2 q.2
noncomputable def kV:Key->V
 | .inl i=>.int i
 | .inr x=>.str x
inductive HO where
 | lst (xs:List V)
 | tup (xs:List V)
 | dK (kvs:List (Key×V)) | dT (kvs:List (List Key×V))
 | set (S:Int->Bool) (n:Nat)
 | ins (C dx:Addr) (fs:List (Str×V))
 | own (x:Addr)
 | xd (fs:List (Str×V))
 | met (f x:Addr)
 | rng (lo hi:Int)
 | frz (o:Obj) (u:HO)
 | tbl (ps:Array Value)
 | ext (φ:Heap->Prop)
 | cod (c:Addr) (q:Str)
abbrev Hp:=Addr->Option HO
def rn (H:Hp) (v:Value) (q:Str):Prop:=∃ c oc vs t φ,v=.ref c/\H c=some (.frz oc (.ext φ))/\oc.data=.fields vs/\vs[1]?=some (.str q t)
theorem rn.mono {H H':Hp} {v:Value} {q:Str} (x:rn H v q) (hf:∀ b o φ,H b=some (.frz o (.ext φ))->H' b=some (.frz o (.ext φ))):rn H' v q:=
 let ⟨c,oc,vs,t,φ,a,b,d⟩:=x;⟨c,oc,vs,t,φ,a,hf _ _ _ b,d⟩
noncomputable def upd (H:Hp) (a:Addr) (o:HO):Hp:=fun b=>if b=a then some o else H b
theorem ar {H:Hp} {a:Addr} {o:HO}:upd H a o a=some o:=by unfold upd;rw[if_pos rfl]
theorem ah {H:Hp} {a b:Addr} {o:HO} (h:b≠a):upd H a o b=H b:=by unfold upd;rw[if_neg h]
theorem aF {H:Hp} {a b:Addr} {o:HO} (h:H a=some o) (h':H b=none):a≠b:=by
 intro e;subst e;rw[h] at h';cases h'
section
variable (P:Program) (w:World)
def cV (H:Hp) (h:Heap) (a:Addr):HO->Prop
 | .lst xs=>xs.length<=sizeLine/\∃ (its:Lv0) (n:Nat),Vals xs its/\h.get? a=some { cls:=.type "list",data:=.seq its.toArray n }
 | .tup xs=>xs.length<=sizeLine/\∃ its:Lv0,Vals xs its/\IsTup h a its.toArray
 | .dK kvs=>kvs.length<=sizeLine/\(a == sysModules)=false/\∃ vs,KV kvs vs/\h.DictOf (sy P w) a vs
 | .dT kvs=>kvs.length<=sizeLine/\(a == sysModules)=false/\∃ xs:List (List Key×Addr×Value),
   Paired (fun (p:List Key×V) (q:List Key×Addr×Value)=>p.1=q.1/\H q.2.1=some (.tup (p.1.map kV))/\RelV p.2 q.2.2) kvs xs/\
   ∃ o es ep,h.get? a=some o/\o.ExactDict/\o.data=.dict es ep/\es.toList=xs.map (entryOfKey (tupleKind (sy P w)))/\(xs.map (·.1)).Nodup
 | .set S n=>h.SetOf (intKind P w) a S n
 | .ins C dx fs=>H dx=some (.own a)/\fs.length<=1000/\dx≠a/\h.get? a=some (PySem.W.instObj C dx)/\
   ∃ mA,h.Ns1 dx mA/\(∀ f,uY (fs.lookup f) (mA f))/\PySem.Within mA (fs.map (·.1))
 | .own _=>∃ o,h.get? a=some o
 | .xd fs=>∃ mA,h.Ns1 a mA/\∀ f,uY (fs.lookup f) (mA f)
 | .rng lo hi=>∃ t u v,h.get? a=some { cls:=.type "range",data:=.fields #[.int lo t,.int hi u,.int 1 v] }
 | .frz o u=>h.get? a=some o/\cV H h a u
 | .tbl ps=>∃ q t qs,ps[0]?=some (Value.str q t)/\h.get? a=some { cls:=.none,data:=.fields qs }/\TriplesOk qs.toList/\∀ pos v,codeAmong pos qs.toList=some v->rn H v q
 | .cod c q=>(∃ o,h.get? a=some o)/\rn H (.ref c) q
 | .met f x=>h.get? a=some (PySem.W.methodObj (.ref f) (.ref x))
 | .ext φ=>φ h/\(∃ o,h.get? a=some o)/\∀ h1 h2:Heap,φ h1->(∀ o,h1.get? a=some o->h2.get? a=some o)->φ h2
def HOk (H:Hp) (h:Heap):Prop:=∀ a o,H a=some o->cV P w H h a o
end
section
variable {P:Program} {w:World} {H H':Hp} {h h':Heap} {a:Addr} {o:HO}
theorem cV.lt (x:cV P w H h a o):a < h.objs.size:=by
 cases o with
 | lst xs=>obtain⟨_,_,_,_,e⟩:=x;exact Heap.lt_size e
 | tup xs=>obtain⟨_,_,_,p⟩:=x;exact p.lt
 | dK kvs=>obtain⟨_,_,_,_,o,_,_,e,_⟩:=x;exact Heap.lt_size e
 | dT kvs=>obtain⟨_,_,_,_,o,_,_,e,_⟩:=x;exact Heap.lt_size e
 | set S n=>obtain⟨o,_,_,_,e,_⟩:=x;exact Heap.lt_size e
 | ins C dx fs=>obtain⟨_,_,_,e,_⟩:=x;exact Heap.lt_size e
 | own y=>obtain⟨_,e⟩:=x;exact Heap.lt_size e
 | xd fs=>obtain⟨_,⟨_,_,_,e,_⟩,_⟩:=x;exact Heap.lt_size e
 | rng lo hi=>obtain⟨_,_,_,e⟩:=x;exact Heap.lt_size e
 | frz ob u=>obtain⟨e,_⟩:=x;exact Heap.lt_size e
 | tbl ps=>obtain⟨_,_,_,_,e,_⟩:=x;exact Heap.lt_size e
 | cod c q=>obtain⟨⟨_,e⟩,_⟩:=x;exact Heap.lt_size e
 | met f y=>exact Heap.lt_size (show h.get? a=some _ from x)
 | ext φ=>obtain⟨_,⟨_,e⟩,_⟩:=x;exact Heap.lt_size e
theorem Paired.My {α β:Type} {F G:α->β->Prop}:∀ {l₁:List α} {l₂:List β},Paired F l₁ l₂->(∀ a b,F a b->G a b)->Paired G l₁ l₂
 | _,_,.nil,_=>.nil
 | _,_,.cons r t,f=>.cons (f _ _ r) (Paired.My t f)
theorem cV.tu (x:cV P w H h a o) (k:∀ b u,(b=a\/H b=some (.own a))->h.get? b=some u->h'.get? b=some u)
  (ho:∀ b,H b=some (.own a)->H' b=some (.own a)) (ht:∀ b xs,H b=some (.tup xs)->H' b=some (.tup xs)) (hf:∀ b o φ,H b=some (.frz o (.ext φ))->H' b=some (.frz o (.ext φ)):=by first | exact fun _ _ _ q=>q | (intro c o u q;rw[_root_.L2.ah (_root_.L2.aF q (by assumption))];exact q)):cV P w H' h' a o:=by
 induction o with
 | lst xs=>obtain⟨z,its,n,r,e⟩:=x;exact⟨z,its,n,r,k _ _ (.inl rfl) e⟩
 | tup xs=>obtain⟨z,its,r,ob,e,c⟩:=x;exact⟨z,its,r,ob,k _ _ (.inl rfl) e,c⟩
 | dK kvs=>obtain⟨z,y,vs,r,ob,es,ep,e,c⟩:=x;exact⟨z,y,vs,r,ob,es,ep,k _ _ (.inl rfl) e,c⟩
 | dT kvs=>
  obtain⟨z,y,xs,r,ob,es,ep,e,c⟩:=x;exact⟨z,y,xs,Paired.My r fun p q z=>⟨z.1,ht _ _ z.2.1,z.2.2⟩,ob,es,ep,k _ _ (.inl rfl) e,c⟩
 | set S n=>obtain⟨ob,es,ep,t,e,c⟩:=x;exact⟨ob,es,ep,t,k _ _ (.inl rfl) e,c⟩
 | ins C dx fs=>
  obtain⟨d,z,ne,e,mA,⟨od,es,ep,e2,c⟩,r⟩:=x;exact⟨ho _ d,z,ne,k _ _ (.inl rfl) e,mA,⟨od,es,ep,k _ _ (.inr d) e2,c⟩,r⟩
 | own y=>obtain⟨ob,e⟩:=x;exact⟨ob,k _ _ (.inl rfl) e⟩
 | xd fs=>obtain⟨mA,⟨od,es,ep,e,c⟩,r⟩:=x;exact⟨mA,⟨od,es,ep,k _ _ (.inl rfl) e,c⟩,r⟩
 | rng lo hi=>obtain⟨t,u,v,e⟩:=x;exact⟨t,u,v,k _ _ (.inl rfl) e⟩
 | frz ob u ih=>obtain⟨e,q⟩:=x;exact⟨k _ _ (.inl rfl) e,ih q⟩
 | tbl ps=>obtain⟨q,t,qs,e1,e2,e3,e4⟩:=x;exact⟨q,t,qs,e1,k a _ (.inl rfl) e2,e3,fun p v r=>(e4 p v r).mono hf⟩
 | cod c q=>obtain⟨⟨u,e⟩,y⟩:=x;exact⟨⟨u,k a _ (.inl rfl) e⟩,y.mono hf⟩
 | met f y=>
  have e:h.get? a=some (PySem.W.methodObj (.ref f) (.ref y)):=x;show h'.get? a=some (PySem.W.methodObj (.ref f) (.ref y));exact k a _ (.inl rfl) e
 | ext φ=>obtain⟨p,⟨o,e⟩,st⟩:=x;exact⟨st _ _ p fun o q=>k _ _ (.inl rfl) q,⟨o,k _ _ (.inl rfl) e⟩,st⟩
theorem HOk.lt (x:HOk P w H h) (e:H a=some o):a < h.objs.size:=(x a o e).lt
theorem HOk.fresh (x:HOk P w H h) (e:h.objs.size<=a):H a=none:=by
 cases q:H a with
 | none=>rfl
 | some u=>exact absurd (Nat.lt_of_lt_of_le (x.lt q) e) (Nat.lt_irrefl _)
theorem HOk.kept (x:HOk P w H h) (k:∀ b u,h.get? b=some u->h'.get? b=some u):HOk P w H h':=fun a o e=>
 (x a o e).tu (fun b u _ q=>k b u q) (fun _ q=>q) fun _ _ q=>q
theorem HOk.laid (x:HOk P w H h) (k:∀ b u,h.get? b=some u->h'.get? b=some u) (hp:h.objs.size<=a) (new:cV P w (upd H a o) h' a o):HOk P w (upd H a o) h':=fun b u e=>by
 have hn:=x.fresh hp;by_cases hb:b=a
 ·subst hb;rw[ar] at e;cases e;exact new
 ·rw[ah hb] at e;exact(x b u e).tu (fun c v _ q=>k c v q) (fun c q=>by rw[ah (aF q hn)];exact q) fun c xs q=>by rw[ah (aF q hn)];exact q
end
def Rd (H:Hp) (a:Addr) (u:HO):Prop:=H a=some u\/∃ o,H a=some (.frz o u)
theorem Rd.ok {P:Program} {w:World} {H:Hp} {h:Heap} {a:Addr} {u:HO} (r:Rd H a u) (x:HOk P w H h):cV P w H h a u:=by
 rcases r with r | ⟨o,r⟩
 ·exact x a u r
 ·obtain⟨_,q⟩:=x a _ r;exact q
def Mut:Option HO->Prop
 | some (.lst _)=>True
 | some (.dK _)=>True
 | some (.dT _)=>True
 | some (.set _ _)=>True
 | some (.ins _ _ _)=>True
 | some (.ext _)=>True
 | _=>False
section
variable {P:Program} {w:World} {H:Hp} {h h':Heap} {x e:Addr} {o':HO}
theorem HOk.write (ok:HOk P w H h) (mu:Mut (H x)) (he:e=x\/H e=some (.own x)) (k:∀ b u,b≠e->h.get? b=some u->h'.get? b=some u) (heo:∃ u,h'.get? e=some u)
  (new:cV P w (upd H x o') h' x o'):HOk P w (upd H x o') h':=fun b u q=>by
 have nown:∀ c y,H c=some (.own y)->c≠x:=fun c y r z=>by subst z;rw[r] at mu;exact mu
 have ntup:∀ c xs,H c=some (.tup xs)->c≠x:=fun c xs r z=>by subst z;rw[r] at mu;exact mu
 by_cases hb:b=x
 ·subst hb;rw[ar] at q;cases q;exact new
 ·rw[ah hb] at q;by_cases hbe:b=e
  ·have q':H b=some (.own x):=by
    rcases he with z | z
    ·exact absurd (hbe.trans z) hb
    ·rw[hbe];exact z
   rw[q] at q';cases q';obtain⟨v,hv⟩:=heo;exact⟨v,by rw[hbe];exact hv⟩
  ·refine(ok b u q).tu (fun c v hc r=>k c v ?_ r) (fun c r=>by rw[ah (nown c b r)];exact r) (fun c xs r=>by rw[ah (ntup c xs r)];exact r) fun c o φ r=>by rw[ah (fun z=>by subst z;rw[r] at mu;exact mu)];exact r
   rcases hc with rfl | hc
   ·exact hbe
   ·rintro rfl;rcases he with z | z
    ·exact nown c b hc z
    ·rw[hc] at z;cases z;exact hb rfl
end
structure Un (fs ex:La0) (H H':Hp) (h h':Heap):Prop where
 keep:∀ b o,h.get? b=some o->H b=none->b∉fs->b∉ex->h'.get? b=some o
 slot:∀ b o,h.get? b=some o->H b=none->b∈fs->b∉ex->∃ sl,h'.get? b=some { o with slots:=sl }
 free:∀ b o,h.get? b=some o->H b=none->b∉ex->H' b=none
 there:∀ b o,h.get? b=some o->b∉ex->∃ o',h'.get? b=some o'
 tups:∀ b xs,H b=some (.tup xs)->H' b=some (.tup xs)
 mq:∀ b o u,H b=some (.frz o u)->H' b=some (.frz o u)
 tbls:∀ b ps,H b=some (.tbl ps)->∃ more,H' b=some (.tbl (ps++more))
section
variable {fs fs' ex ex':La0} {H H1 H2:Hp} {h h1 h2 h':Heap} {a x e:Addr} {o:HO}
theorem Un.any (u:Un fs ex H H1 h h1) {b:Addr} {ob:Obj} (q:h.get? b=some ob) (n:H b=none) (hx:b∉ex):∃ sl,h1.get? b=some { ob with slots:=sl }:=by
 by_cases hb:b∈fs
 ·exact u.slot b ob q n hb hx
 ·exact⟨ob.slots,u.keep b ob q n hb hx⟩
theorem Un.kept (k:∀ b u,h.get? b=some u->h'.get? b=some u):Un fs ex H H h h':=
 ⟨fun b ob q _ _ _=>k b ob q,fun b ob q _ _ _=>⟨ob.slots,k b ob q⟩,fun _ _ _ n _=>n,fun b ob q _=>⟨ob,k b ob q⟩,fun _ _ q=>q,fun _ _ _ q=>q,fun _ ps q=>⟨#[],by rw[q];simp⟩⟩
theorem Un.refl:Un fs ex H H h h:=Un.kept fun _ _ q=>q
theorem Un.laid (k:∀ b u,h.get? b=some u->h'.get? b=some u) (hp:h.objs.size<=a) (hn:H a=none):Un fs ex H (upd H a o) h h' where
 keep:=fun b u q _ _ _=>k b u q
 slot:=fun b u q _ _ _=>⟨u.slots,k b u q⟩
 free:=fun b u q n _=>by rw[ah (Nat.ne_of_lt (Nat.lt_of_lt_of_le (Heap.lt_size q) hp))];exact n
 there:=fun b u q _=>⟨u,k b u q⟩
 tups:=fun b xs q=>by rw[ah (aF q hn)];exact q
 mq:=fun b u xs q=>by rw[ah (aF q hn)];exact q
 tbls:=fun b ps q=>⟨#[],by rw[ah (aF q hn),q];simp⟩
theorem Un.write (mu:Mut (H x)) (he:e=x\/H e=some (.own x)) (k:∀ b u,b≠e->h.get? b=some u->h'.get? b=some u) (heo:∃ u,h'.get? e=some u):Un fs ex H (upd H x o) h h':=by
 have hx:∀ b,H b=none->b≠x:=fun b n z=>by subst z;rw[n] at mu;exact mu
 have hb:∀ b,H b=none->b≠e:=fun b n z=>by
  subst z;rcases he with r | r
  ·exact hx b n r
  ·rw[n] at r;cases r
 have hm:∀ b u,H b=some u->¬ Mut (some u)->b≠x:=fun b u q nm z=>by subst z;rw[q] at mu;exact nm mu
 refine⟨fun b u q n _ _=>k b u (hb b n) q,fun b u q n _ _=>⟨u.slots,k b u (hb b n) q⟩,fun b u q n _=>by rw[ah (hx b n)];exact n,fun b u q _=>?_,
  fun b xs q=>by rw[ah (hm b _ q fun z=>z)];exact q,fun b u xs q=>by rw[ah (hm b _ q fun z=>z)];exact q,fun b ps q=>⟨#[],by rw[ah (hm b _ q fun z=>z),q];simp⟩⟩
 by_cases hbe:b=e
 ·subst hbe;exact heo
 ·exact⟨u,k b u hbe q⟩
end
structure Mod (K:Fg0) (mg:SV) (base:Heap):Prop where
 kin:K.In base
 glob:base.Ns mainGlobals mg
 blt:∃ mb,base.Ns builtinsNs mb/\∀ x:Str,x≠"__name__"->mb x=bootBuiltins x
 nolimit:base.NoLimit
 bm:∃ bm ob,mg "__builtins__"=some (.ref bm)/\bm≠builtinsNs/\base.get? bm=some ob/\ob.cls=.type "module"/\ob.dict=some builtinsNs/\ob.data=.plain
structure Cx where
 prog:Program
 w:World
 K:Fg0
 mg:Str->Option Value
 base:Heap
 A:Around
 N:Ls0
 s₀:Shared
 H₀:Hp
 env:Env
 outer:List Env
 stack:List Env
 ex:La0
 fn:Str->Bool
 calm:Bool
 pn:Pn
 xe:Value->Shared->Prop
noncomputable def frs (l:List Env):La0:=l.filterMap (·.frame)
noncomputable abbrev Cx.fs (X:Cx):La0:=frs X.outer
def Vis (sc:Scope) (x:Str):Prop:=sc.names.lookup x=some .local\/sc.names.lookup x=some .cell\/sc.names.lookup x=some .free
def Loc (sc:Scope) (x:Str):Prop:=sc.names.lookup x=some .local\/sc.names.lookup x=some .cell
def Look (env:Env) (h:Heap) (m:SV) (x:Str) (u:Value):Prop:=
 (env.kindOf x=some .local/\m x=some u)\/((env.kindOf x=some .cell\/env.kindOf x=some .free)/\∃ c,env.cells.lookup x=some c/\h.IsCell c (some u))
def Kpt (H:Hp) (b:Addr) (o:Obj):Prop:=H b=none\/((∃ u,H b=some (.frz o u))/\∀ v,o.data≠.cell v)
def nU (base:Heap) (P:Addr) (q:Str):Prop:=base.objs[P]?=some { cls:=.str q 0,data:=.freed }
def TabsAt (base:Heap) (H:Hp):Prop:=∀ P q,nU base P q->∃ ps t,H P=some (.tbl ps)/\ps[0]?=some (.str q t)
structure Cx.Ok (X:Cx):Prop where
 mod:Mod X.K X.mg X.base
 kind:X.env.scope.kind=.function
 glob:X.env.globals=mainGlobals
 blt:X.env.builtins=builtinsNs
 above:X.s₀.heap.objs.size<=X.env.locals
 inj:∀ x y c,X.env.cells.lookup x=some c->X.env.cells.lookup y=some c->x=y
 has:∀ x,(X.env.kindOf x=some .cell\/X.env.kindOf x=some .free)->∃ c,X.env.cells.lookup x=some c
 cab:∀ x c,X.fn x=true->X.env.cells.lookup x=some c->X.s₀.heap.objs.size<=c
 hd:X.calm=true->X.A.handled=none
 frames:X.A.frames=some X.stack
 stk:X.stack=X.outer\/(X.stack=X.env::X.outer/\X.env.frame=some X.env.locals)
 exf:∀ b∈X.ex,b≠X.env.locals/\∀ x c,X.env.cells.lookup x=some c->c≠b
 bs:∀ b o,X.base.get? b=some o->X.s₀.heap.get? b=some o/\Kpt X.H₀ b o
 bsz:X.base.objs.size<=X.s₀.heap.objs.size
 noex:∀ b o,X.base.get? b=some o->b∉X.ex
 exfs:∀ b∈X.ex,b∉X.fs
 nI:X.s₀.heap.FunFrames X.base X.outer
 frf:∀ b∈X.fs,X.H₀ b=none
 tb:TabsAt X.base X.H₀
structure Inv (X:Cx) (pins:Pn) (σ:List (Option V)) (H:Hp) (s:Shared):Prop where
 ok:X.Ok
 os:s.os=X.s₀.os
 bare:AllBare s.gens
 base:Un X.fs X.ex X.H₀ H X.s₀.heap s.heap
 loc:∃ m,s.heap.Ns X.env.locals m/\∀ (i:Nat) (x:Str) (v:V),X.N[i]?=some x->σ[i]?=some (some v)->Vis X.env.scope x->∃ u,RelV v u/\Look X.env s.heap m x u
 cell:∀ x c,X.env.cells.lookup x=some c->∃ v,s.heap.IsCell c v
 free:H X.env.locals=none
 freeC:∀ x c,X.env.cells.lookup x=some c->H c=none
 pin:∀ p∈X.pn++pins,s.heap.get? p.1=some p.2/\H p.1=none/\p.1≠X.env.locals/\p.1∉X.fs/\∀ v,p.2.data≠.cell v
 hok:HOk X.prog X.w H s.heap
 len:σ.length=X.N.length
section
variable {X:Cx} {pins:Pn} {σ:List (Option V)} {H H':Hp} {s:Shared} {h':Heap}
theorem Cx.Ok.NH (ok:X.Ok) {b:Addr} {o:Obj} (e:X.base.get? b=some o):b∉X.fs:=fun hb=>by
 have:=(ok.nI.mem hb).1;rw[e] at this;cases this
theorem Inv.bs (I:Inv X pins σ H s):∀ b o,X.base.get? b=some o->s.heap.get? b=some o/\Kpt H b o:=fun b o e=>by
 obtain⟨h1,h2 | ⟨⟨u,h2⟩,h3⟩⟩:=I.ok.bs b o e
 ·exact⟨I.base.keep b o h1 h2 (I.ok.NH e) (I.ok.noex b o e),.inl (I.base.free b o h1 h2 (I.ok.noex b o e))⟩
 ·have q:=I.base.mq b o u h2;obtain⟨z,_⟩:=I.hok b _ q;exact⟨z,.inr ⟨⟨u,q⟩,h3⟩⟩
theorem TabsAt.un {base:Heap} {fs ex:La0} {H H':Hp} {h h':Heap} (x:TabsAt base H) (u:Un fs ex H H' h h'):TabsAt base H':=fun P q r=>by
 obtain⟨ps,t,e1,e2⟩:=x P q r;obtain⟨m,e3⟩:=u.tbls P ps e1;exact⟨_,t,e3,by rw[Array.getElem?_append_left (by obtain⟨z,_⟩:=Array.getElem?_eq_some_iff.mp e2;exact z)];exact e2⟩
theorem Inv.tb (I:Inv X pins σ H s):TabsAt X.base H:=I.ok.tb.un I.base
theorem Inv.bk (I:Inv X pins σ H s):∀ b o,X.base.get? b=some o->s.heap.get? b=some o:=fun b o e=>(I.bs b o e).1
theorem Inv.mod (I:Inv X pins σ H s):Mod X.K X.mg X.base:=I.ok.mod
theorem Inv.kIn (I:Inv X pins σ H s):X.K.In s.heap:=I.ok.mod.kin.keeps I.bk
theorem Inv.lt (I:Inv X pins σ H s):X.env.locals < s.heap.objs.size:=let ⟨_,hn,_⟩:=I.loc;hn.lt
theorem Inv.sz (I:Inv X pins σ H s):X.s₀.heap.objs.size<=s.heap.objs.size:=Nat.le_trans I.ok.above (Nat.le_of_lt I.lt)
theorem Inv.NG (I:Inv X pins σ H s) {a:Addr} (h:s.heap.objs.size<=a):a∉X.fs:=fun hb=>by
 obtain⟨_,o,ho,_⟩:=I.ok.nI.mem hb;exact absurd (Nat.lt_of_lt_of_le (Heap.lt_size ho) (Nat.le_trans I.sz h)) (Nat.lt_irrefl _)
theorem Inv.cne (I:Inv X pins σ H s):∀ x c,X.env.cells.lookup x=some c->c≠X.env.locals:=fun x c e z=>by
 obtain⟨v,o,ho,hd⟩:=I.cell x c e;obtain⟨m,⟨o',es,ep,ho',hd',_⟩,_⟩:=I.loc;rw[z,ho'] at ho;cases ho;rw[hd'] at hd;cases hd
theorem Inv.nI (I:Inv X pins σ H s):s.heap.FunFrames X.base X.outer:=by
 have all:∀ (l:List Env),(∀ b∈frs l,b∈X.fs)->X.s₀.heap.FunFrames X.base l->s.heap.FunFrames X.base l:=by
  intro l
  induction l with
  | nil=>intro _ _;trivial
  | cons env r ih=>
   intro hs hl;obtain⟨hk,⟨L,o,hf,hn,ho,hd⟩,hr⟩:=hl;have hL:L∈X.fs:=hs L (by unfold frs;rw[List.filterMap_cons,hf];exact List.mem_cons_self);obtain⟨sl,e⟩:=I.base.slot L o ho (I.ok.frf L hL) hL fun z=>I.ok.exfs L z hL;exact⟨hk,⟨L,_,hf,hn,e,hd⟩,ih (fun b hb=>hs b (by unfold frs;rw[List.filterMap_cons,hf];exact List.mem_cons_of_mem _ hb)) hr⟩
 exact all X.outer (fun _ hb=>hb) I.ok.nI
theorem Inv.stack (I:Inv X pins σ H s):s.heap.FunFrames X.base X.stack:=by
 rcases I.ok.stk with e | ⟨e,hf⟩
 ·rw[e];exact I.nI
 ·rw[e];obtain⟨m,hn,_⟩:=I.loc;refine .cons (by rw[I.ok.kind];decide) hf hn ?_ I.nI;exact Heap.get?_none_of_le (Nat.le_trans I.ok.bsz I.ok.above)
theorem Inv.tj (I:Inv X pins σ H s):∀ b∈frs X.stack,b∈X.env.locals::X.fs:=fun b hb=>by
 rcases I.ok.stk with e | ⟨e,hf⟩
 ·rw[e] at hb;exact List.mem_cons_of_mem _ hb
 ·rw[e] at hb;unfold frs at hb;rw[List.filterMap_cons,hf] at hb;exact hb
theorem Inv.r9 (I:Inv X pins σ H s):∀ b∈frs X.stack,H b=none:=fun b hb=>by
 rcases List.mem_cons.mp (I.tj b hb) with e | hb
 ·rw[e];exact I.free
 ·obtain⟨_,o,ho,_⟩:=I.ok.nI.mem hb;exact I.base.free b o ho (I.ok.frf b hb) fun z=>I.ok.exfs b z hb
theorem Inv.step {g':Array GenState} {t':Nat} {d':Drawn} {ch:La0} (I:Inv X pins σ H s)
  (hch:∀ b∈ch,(b∈X.ex\/X.s₀.heap.objs.size<=b)/\b≠X.env.locals/\(∀ x c,X.env.cells.lookup x=some c->c≠b)/\∀ p∈X.pn++pins,p.1≠b)
  (keep:∀ b o,b≠X.env.locals->b∉X.fs->b∉ch->s.heap.get? b=some o->H b=none->h'.get? b=some o)
  (slot:∀ b o,b≠X.env.locals->b∈X.fs->b∉ch->s.heap.get? b=some o->H b=none->∃ sl,h'.get? b=some { o with slots:=sl }) (free:∀ b o,b∉ch->s.heap.get? b=some o->H b=none->H' b=none)
  (there:∀ b o,b∉ch->s.heap.get? b=some o->∃ o',h'.get? b=some o')
  (tups:∀ b xs,H b=some (.tup xs)->H' b=some (.tup xs)) (mq:∀ b o u,H b=some (.frz o u)->H' b=some (.frz o u)) (tbls:∀ b ps,H b=some (.tbl ps)->∃ more,H' b=some (.tbl (ps++more)))
  (ns:∀ m,s.heap.Ns X.env.locals m->h'.Ns X.env.locals m) (hok:HOk X.prog X.w H' h') (hg:AllBare g') :
  Inv X pins σ H' { s with heap:=h',gens:=g',drawn:=d',toks:=t' }:=by
 have neL:∀ b o,X.s₀.heap.get? b=some o->b≠X.env.locals:=fun b o e=>Nat.ne_of_lt (Nat.lt_of_lt_of_le (Heap.lt_size e) I.ok.above);have neC:∀ b o,X.s₀.heap.get? b=some o->b∉X.ex->b∉ch:=fun b o e hx hb=>by
  rcases(hch b hb).1 with z | z
  ·exact hx z
  ·exact absurd (Nat.lt_of_lt_of_le (Heap.lt_size e) z) (Nat.lt_irrefl _)
 have cellK:∀ x c,X.env.cells.lookup x=some c->∀ v,s.heap.IsCell c v->h'.IsCell c v:=fun x c e v Z=>by
  obtain⟨o,ho,hd⟩:=Z;have nch:c∉ch:=fun z=>(hch c z).2.2.1 x c e rfl;by_cases hc:c∈X.fs
  ·obtain⟨sl,q⟩:=slot c o (I.cne x c e) hc nch ho (I.freeC x c e);exact⟨_,q,hd⟩
  ·exact⟨o,keep c o (I.cne x c e) hc nch ho (I.freeC x c e),hd⟩
 refine⟨I.ok,I.os,hg,⟨fun b o e n hb hx=>?_,fun b o e n hb hx=>?_,fun b o e n hx=>?_,fun b o e hx=>?_,fun b xs e=>tups b xs (I.base.tups b xs e),fun b o xs e=>mq b o xs (I.base.mq b o xs e),fun b ps e=>?_⟩,?_,fun x c e=>?_,?_,fun x c e=>?_,fun p hp=>?_,hok,I.len⟩
 ·exact keep b o (neL b o e) hb (neC b o e hx) (I.base.keep b o e n hb hx) (I.base.free b o e n hx)
 ·obtain⟨sl,e1⟩:=I.base.slot b o e n hb hx;obtain⟨sl',e2⟩:=slot b _ (neL b o e) hb (neC b o e hx) e1 (I.base.free b o e n hx);exact⟨sl',e2⟩
 ·obtain⟨o',e1⟩:=I.base.there b o e hx;exact free b o' (neC b o e hx) e1 (I.base.free b o e n hx)
 ·obtain⟨o',e1⟩:=I.base.there b o e hx;exact there b o' (neC b o e hx) e1
 ·obtain⟨m1,e1⟩:=I.base.tbls b ps e;obtain⟨m2,e2⟩:=tbls b _ e1;exact⟨m1++m2,by rw[e2,Array.append_assoc]⟩
 ·obtain⟨m,hn,hl⟩:=I.loc;refine⟨m,ns m hn,fun i x v e1 e2 e3=>?_⟩;obtain⟨u,r,l⟩:=hl i x v e1 e2 e3;refine⟨u,r,?_⟩;rcases l with l | ⟨k,c,e,z⟩
  ·exact .inl l
  ·exact .inr ⟨k,c,e,cellK x c e _ z⟩
 ·obtain⟨v,z⟩:=I.cell x c e;exact⟨v,cellK x c e v z⟩
 ·obtain⟨m,⟨o,_,_,ho,_⟩,_⟩:=I.loc;exact free _ o (fun z=>(hch _ z).2.1 rfl) ho I.free
 ·obtain⟨v,o,ho,hd⟩:=I.cell x c e;exact free c o (fun z=>(hch c z).2.2.1 x c e rfl) ho (I.freeC x c e)
 ·obtain⟨e,n,ne,nf,d⟩:=I.pin p hp;have nch:p.1∉ch:=fun z=>(hch p.1 z).2.2.2 p hp rfl;exact⟨keep p.1 p.2 ne nf nch e n,free p.1 p.2 nch e n,ne,nf,d⟩
theorem Inv.un {t':Nat} (I:Inv X pins σ H s) (u:Un X.fs [] H H' s.heap h') (hok:HOk X.prog X.w H' h'):Inv X pins σ H' { s with heap:=h',toks:=t' }:=by
 obtain⟨m,⟨o,es,ep,ho,r⟩,_⟩:=id I.loc;obtain⟨sl,hL⟩:=u.any ho I.free (by simp);exact I.step (g':=s.gens) (d':=s.drawn) (ch:=[]) (fun _ z=>nomatch z) (fun b o _ hb _ e n=>u.keep b o e n hb (by simp)) (fun b o _ hb _ e n=>u.slot b o e n hb (by simp)) (fun b o _ e n=>u.free b o e n (by simp)) (fun b o _ e=>u.there b o e (by simp)) u.tups u.mq u.tbls (fun m' hm=>by
  obtain⟨o',es',ep',ho',r'⟩:=hm;rw[ho] at ho';cases ho';exact⟨_,es',ep',hL,r'⟩) hok I.bare
theorem Inv.call {g':Array GenState} {t':Nat} {d':Drawn} {ch:La0} (I:Inv X pins σ H s) (u:Un (frs X.stack) ch H H' s.heap h') (hok:HOk X.prog X.w H' h') (hg:AllBare g')
  (hch:∀ b∈ch,(b∈X.ex\/X.s₀.heap.objs.size<=b)/\b≠X.env.locals/\(∀ x c,X.env.cells.lookup x=some c->c≠b)/\∀ p∈X.pn++pins,p.1≠b) :
  Inv X pins σ H' { s with heap:=h',gens:=g',drawn:=d',toks:=t' }:=by
 obtain⟨m,⟨o,es,ep,ho,r⟩,_⟩:=id I.loc;obtain⟨sl,hL⟩:=u.any ho I.free fun z=>(hch _ z).2.1 rfl;exact I.step (ch:=ch) hch (fun b o hL hb hc e n=>u.keep b o e n (fun z=>(List.mem_cons.mp (I.tj b z)).elim hL hb) hc) (fun b o _ _ hc e n=>u.any e n hc) (fun b o hc e n=>u.free b o e n hc) (fun b o hc e=>u.there b o e hc) u.tups u.mq u.tbls (fun m' hm=>by
  obtain⟨o',es',ep',ho',r'⟩:=hm;rw[ho] at ho';cases ho';exact⟨_,es',ep',hL,r'⟩) hok hg
theorem Inv.turned {t':Nat} {it:Addr} (I:Inv X pins σ H s) (k:∀ b o,b≠it->s.heap.get? b=some o->h'.get? b=some o) (hn:H it=none) (hL:it≠X.env.locals)
  (h1:it∈X.ex\/X.s₀.heap.objs.size<=it) (h2:∀ x c,X.env.cells.lookup x=some c->c≠it) (h3:∀ p∈X.pn++pins,p.1≠it):Inv X pins σ H { s with heap:=h',toks:=t' }:=by
 have nit:∀ b u,H b=some u->b≠it:=fun b u e z=>by rw[z,hn] at e;cases e
 refine I.step (g':=s.gens) (d':=s.drawn) (ch:=[it]) (fun b hb=>?_) (fun b o _ _ hc e _=>k b o (fun z=>hc (by simp [z])) e) (fun b o _ _ hc e _=>⟨o.slots,k b o (fun z=>hc (by simp [z])) e⟩) (fun _ _ _ _ n=>n)
  (fun b o hc e=>⟨o,k b o (fun z=>hc (by simp [z])) e⟩) (fun _ _ e=>e) (fun _ _ _ e=>e) (fun b ps e=>⟨#[],by rw[e];simp⟩) (fun m hm=>?_) (fun b u e=>?_) I.bare
 ·have e:b=it:=by simpa using hb
  subst e;exact⟨h1,hL,h2,h3⟩
 ·obtain⟨o,es,ep,ho,r⟩:=hm;exact⟨o,es,ep,k _ o (Ne.symm hL) ho,r⟩
 ·refine(I.hok b u e).tu (fun c v hc q=>k c v ?_ q) (fun _ q=>q) fun _ _ q=>q;rcases hc with z | z
  ·rw[z];exact nit b u e
  ·exact nit c _ z
theorem Inv.tok (I:Inv X pins σ H s) (t:Nat):Inv X pins σ H { s with toks:=t }:=I.un (h':=s.heap) (t':=t) Un.refl I.hok
theorem Inv.kept {t':Nat} (I:Inv X pins σ H s) (k:∀ b u,s.heap.get? b=some u->h'.get? b=some u):Inv X pins σ H { s with heap:=h',toks:=t' }:=I.un (Un.kept k) (I.hok.kept k)
theorem Inv.laid {a:Addr} {o:HO} {t':Nat} (I:Inv X pins σ H s) (k:∀ b u,s.heap.get? b=some u->h'.get? b=some u) (hp:s.heap.objs.size<=a) (new:cV X.prog X.w (upd H a o) h' a o) :
  Inv X pins σ (upd H a o) { s with heap:=h',toks:=t' }:=I.un (Un.laid k hp (I.hok.fresh hp)) (I.hok.laid k hp new)
theorem Inv.write {x e:Addr} {o:HO} {t':Nat} (I:Inv X pins σ H s) (mu:Mut (H x)) (he:e=x\/H e=some (.own x)) (k:∀ b u,b≠e->s.heap.get? b=some u->h'.get? b=some u) (heo:∃ u,h'.get? e=some u)
  (new:cV X.prog X.w (upd H x o) h' x o):Inv X pins σ (upd H x o) { s with heap:=h',toks:=t' }:=I.un (Un.write mu he k heo) (I.hok.write mu he k heo new)
theorem Inv.jI {pins':Pn} (I:Inv X pins σ H s) (h:∀ p∈pins',s.heap.get? p.1=some p.2/\H p.1=none/\p.1≠X.env.locals/\p.1∉X.fs/\∀ v,p.2.data≠.cell v):Inv X pins' σ H s:=
 ⟨I.ok,I.os,I.bare,I.base,I.loc,I.cell,I.free,I.freeC,fun p hp=>(List.mem_append.mp hp).elim (fun z=>I.pin p (List.mem_append_left _ z)) (h p),I.hok,I.len⟩
theorem zg {N:Ls0} (hN:N.Nodup) {i j:Nat} {x:Str} (a:N[i]?=some x) (b:N[j]?=some x):i=j:=by
 obtain⟨h1,e1⟩:=gS0 a;obtain⟨h2,e2⟩:=gS0 b;exact(List.getElem_inj hN).mp (e1.trans e2.symm)
theorem vG {M:Model} {A:Around} {E:VS} {i:Nat} {x:Str} {v:V} {u:Value} {Q:Unit->Shared->Prop} (I:Inv X pins σ H s) (hN:X.N.Nodup) (hi:X.N[i]?=some x) (hx:Loc X.env.scope x) (r:RelV v u)
  (h:∀ s',Inv X pins (σ.set i (some v)) H s'->(∃ a,Heap.SameBut a s.heap s'.heap/\(a=X.env.locals\/X.env.cells.lookup x=some a))->Q () s') (hf:autoParam (X.fn x=true\/X.env.scope.names.lookup x=some .local) k0):wpAny M A (storeName X.env x u) Q E s:=by
 obtain⟨m,hn,hl⟩:=id I.loc;have hcls:(X.env.scope.kind == .class || (X.env.scope.kind == .module && X.env.locals != X.env.globals))=false:=by rw[I.ok.kind];rfl
 have hiσ:i < σ.length:=by rw[I.len];exact(gS0 hi).1
 have cne:=I.cne;have tracked:∀ {a:Addr} {h':Heap},(∃ o,s.heap.get? a=some o/\H a=none)->Heap.SameBut a s.heap h'->HOk X.prog X.w H h':=fun {a h'} ha hs b ob e=>by
  obtain⟨_,_,hfree⟩:=ha;refine(I.hok b ob e).tu (fun c w' hc q=>(hs.2 c ?_).trans q) (fun _ q=>q) fun _ _ q=>q;rintro rfl;rcases hc with rfl | hc
  ·rw[hfree] at e;cases e
  ·rw[hfree] at hc;cases hc
 rcases hx with hk | hk
 ·refine wpAny_storeName_local hk hn (fun h' hn' hs=>?_) hcls;obtain⟨oL,_,_,hoL,_⟩:=id hn;refine h _ ⟨I.ok,I.os,I.bare,⟨fun b o e n hb hx=>?_,fun b o e n hb hx=>?_,I.base.free,fun b o e hx=>?_,I.base.tups,I.base.mq,I.base.tbls⟩,⟨_,hn',fun j y v' e1 e2 e3=>?_⟩,fun y c e=>?_,I.free,I.freeC,fun p hp=>?_,tracked ⟨oL,hoL,I.free⟩ hs,by simpa using I.len⟩ ⟨_,hs,.inl rfl⟩
  ·exact(hs.2 b (Nat.ne_of_lt (Nat.lt_of_lt_of_le (Heap.lt_size e) I.ok.above))).trans (I.base.keep b o e n hb hx)
  ·obtain⟨sl,e1⟩:=I.base.slot b o e n hb hx;exact⟨sl,(hs.2 b (Nat.ne_of_lt (Nat.lt_of_lt_of_le (Heap.lt_size e) I.ok.above))).trans e1⟩
  ·obtain⟨o',e1⟩:=I.base.there b o e hx;exact⟨o',(hs.2 b (Nat.ne_of_lt (Nat.lt_of_lt_of_le (Heap.lt_size e) I.ok.above))).trans e1⟩
  ·by_cases hj:j=i
   ·subst hj;rw[hi] at e1;cases e1;rw[List.getElem?_set_self hiσ] at e2;cases e2;exact⟨u,r,.inl ⟨hk,by simp⟩⟩
   ·rw[List.getElem?_set_ne (Ne.symm hj)] at e2;obtain⟨u',r',q⟩:=hl j y v' e1 e2 e3;refine⟨u',r',?_⟩;rcases q with ⟨k,e⟩ | ⟨k,c,e,z⟩
    ·refine .inl ⟨k,?_⟩;have:y≠x:=fun e=>hj (zg hN e1 (e ▸ hi));simp [this,e]
    ·exact .inr ⟨k,c,e,z.sameBut hs (cne y c e)⟩
  ·obtain⟨w',z⟩:=I.cell y c e;exact⟨w',z.sameBut hs (cne y c e)⟩
  ·obtain⟨e,n,ne,nf,d⟩:=I.pin p hp;exact⟨(hs.2 p.1 ne).trans e,n,ne,nf,d⟩
 ·have hfn:X.fn x=true:=by
   rcases hf with z | z
   ·exact z
   ·rw[z] at hk;cases hk
  obtain⟨c,hc⟩:=I.ok.has x (.inl hk);obtain⟨w',z⟩:=I.cell x c hc;refine wpAny_storeName_cell I.ok.kind hk hc z (fun h' hc' hs=>?_);obtain⟨oc,hoc,hocd⟩:=id z;refine h { s with heap:=h' } ⟨I.ok,I.os,I.bare,⟨fun b o e n hb hx=>?_,fun b o e n hb hx=>?_,I.base.free,fun b o e hx=>?_,I.base.tups,I.base.mq,I.base.tbls⟩,⟨m,hn.sameBut hs (Ne.symm (cne x c hc)),fun j y v' e1 e2 e3=>?_⟩,fun y c' e=>?_,I.free,I.freeC,fun p hp=>?_,tracked ⟨oc,hoc,I.freeC x c hc⟩ hs,by simpa using I.len⟩ ⟨c,hs,.inr hc⟩
  ·exact(hs.2 b (Nat.ne_of_lt (Nat.lt_of_lt_of_le (Heap.lt_size e) (I.ok.cab x c hfn hc)))).trans (I.base.keep b o e n hb hx)
  ·obtain⟨sl,e1⟩:=I.base.slot b o e n hb hx;exact⟨sl,(hs.2 b (Nat.ne_of_lt (Nat.lt_of_lt_of_le (Heap.lt_size e) (I.ok.cab x c hfn hc)))).trans e1⟩
  ·obtain⟨o',e1⟩:=I.base.there b o e hx;exact⟨o',(hs.2 b (Nat.ne_of_lt (Nat.lt_of_lt_of_le (Heap.lt_size e) (I.ok.cab x c hfn hc)))).trans e1⟩
  ·by_cases hj:j=i
   ·subst hj;rw[hi] at e1;cases e1;rw[List.getElem?_set_self hiσ] at e2;cases e2;exact⟨u,r,.inr ⟨.inl hk,c,hc,hc'⟩⟩
   ·rw[List.getElem?_set_ne (Ne.symm hj)] at e2;obtain⟨u',r',q⟩:=hl j y v' e1 e2 e3;refine⟨u',r',?_⟩;rcases q with q | ⟨k,c',e,z'⟩
    ·exact .inl q
    ·refine .inr ⟨k,c',e,z'.sameBut hs ?_⟩;rintro rfl;exact hj (zg hN e1 (I.ok.inj _ _ _ e hc ▸ hi))
  ·by_cases hcc:c'=c
   ·subst hcc;exact⟨_,hc'⟩
   ·obtain⟨w2,z2⟩:=I.cell y c' e;exact⟨w2,z2.sameBut hs hcc⟩
  ·obtain⟨e,n,ne,nf,d⟩:=I.pin p hp;refine⟨(hs.2 p.1 ?_).trans e,n,ne,nf,d⟩;intro q;rw[q,hoc] at e;have q':oc=p.2:=Option.some.inj e;exact d w' (by rw[<- q'];exact hocd)
theorem nZ {M:Model} {A:Around} {E:VS} {i:Nat} {x:Str} {v:V} {u:Value} {Q:Unit->Shared->Prop} (I:Inv X pins σ H s) (hN:X.N.Nodup) (hi:X.N[i]?=some x) (hx:Loc X.env.scope x) (r:RelV v u)
  (h:∀ s',Inv X pins (σ.set i (some v)) H s'->Q () s') (hf:autoParam (X.fn x=true\/X.env.scope.names.lookup x=some .local) k0):wpAny M A (storeName X.env x u) Q E s:=
 vG I hN hi hx r (fun s' I' _=>h s' I') hf
theorem Inv.JJ {s':Shared} {ch:La0} (I:Inv X pins σ H s) (ho:s'.os=s.os) (u:Un (frs X.stack) ch H H' s.heap s'.heap) (hok:HOk X.prog X.w H' s'.heap) (hg:AllBare s'.gens)
  (hch:∀ b∈ch,(b∈X.ex\/X.s₀.heap.objs.size<=b)/\b≠X.env.locals/\(∀ x c,X.env.cells.lookup x=some c->c≠b)/\∀ p∈X.pn++pins,p.1≠b):Inv X pins σ H' s':=by
 obtain⟨h',g',d',t',o'⟩:=s';have e:o'=s.os:=ho;subst e;exact I.call (g':=g') (t':=t') (d':=d') u hok hg hch
end
abbrev XK:=Value->Option Addr->Hp->Prop
abbrev St:=List (Option V)
abbrev VK:=V->Hp->Prop
abbrev TE:=St->Hp->VK->Prop
abbrev TT:=St->Hp->(Bool->Hp->Prop)->Prop
abbrev TA:=St->Hp->(List V->Hp->Prop)->Prop
structure Ends where
 nx:St->Hp->Prop
 rt:VK
 bk:St->Hp->Prop:=fun _ _=>False
 ct:St->Hp->Prop:=fun _ _=>False
abbrev TS:=Ends->St->Hp->Prop
def EP (X:Cx) (pins:Pn) (σ:St) (Q:VK) (u:Value) (s':Shared):Prop:=∃ v H',Inv X pins σ H' s'/\RelV v u/\Q v H'
def TP (X:Cx) (pins:Pn) (σ:St) (Q:Bool->Hp->Prop) (b:Bool) (s':Shared):Prop:=∃ H',Inv X pins σ H' s'/\Q b H'
def AP (X:Cx) (pins:Pn) (σ:St) (Q:List V->Hp->Prop) (us:Lv0) (s':Shared):Prop:=∃ vs H',Inv X pins σ H' s'/\Vals vs us/\Q vs H'
def SP (X:Cx) (pins:Pn) (D:Ends) (f:Flow) (s':Shared):Prop:=
 match f with
 | .next=>∃ σ' H',Inv X pins σ' H' s'/\D.nx σ' H'
 | .brk=>∃ σ' H',Inv X pins σ' H' s'/\D.bk σ' H'
 | .cont=>∃ σ' H',Inv X pins σ' H' s'/\D.ct σ' H'
 | .ret u=>∃ v σ' H',Inv X pins σ' H' s'/\RelV v u/\D.rt v H'
def PE (X:Cx) (e:Expr) (t:TE):Prop:=
 ∀ (pins:Pn) (s:Shared) (σ:St) (H:Hp) (Q:VK),Inv X pins σ H s->t σ H Q->wpAny (model X.prog X.w) X.A (eval e X.env) (EP X pins σ Q) X.xe s
def PT (X:Cx) (e:Expr) (t:TT):Prop:=
 ∀ (pins:Pn) (s:Shared) (σ:St) (H:Hp) (Q:Bool->Hp->Prop),Inv X pins σ H s->t σ H Q->wpAny (model X.prog X.w) X.A (isTrue e X.env (eval e X.env)) (TP X pins σ Q) X.xe s
def PW (X:Cx) (e:Expr) (t:TT):Prop:=
 ∀ (whole:Sem Value) (pins:Pn) (s:Shared) (σ:St) (H:Hp) (Q:Bool->Hp->Prop),Inv X pins σ H s->t σ H Q->wpAny (model X.prog X.w) X.A (isTrue e X.env whole) (TP X pins σ Q) X.xe s
theorem PW.pt {X:Cx} {e:Expr} {t:TT} (h:PW X e t):PT X e t:=h _
def PA (X:Cx) (es:List Expr) (t:TA):Prop:=
 ∀ (pos:Pos) (pins:Pn) (s:Shared) (σ:St) (H:Hp) (Q:List V->Hp->Prop),Inv X pins σ H s->t σ H Q->wpAny (model X.prog X.w) X.A (spliced (backTo pos (starEach es X.env))) (AP X pins σ Q) X.xe s
def PS (X:Cx) (st:Stmt) (t:TS):Prop:=
 ∀ (pins:Pn) (s:Shared) (σ:St) (H:Hp) (D:Ends),Inv X pins σ H s->t D σ H->wpAny (model X.prog X.w) X.A (exec st X.env) (SP X pins D) X.xe s
def PSs (X:Cx) (st:List Stmt) (t:TS):Prop:=
 ∀ (pins:Pn) (s:Shared) (σ:St) (H:Hp) (D:Ends),Inv X pins σ H s->t D σ H->wpAny (model X.prog X.w) X.A (execs st X.env) (SP X pins D) X.xe s
theorem thn {α:Type} {t:Sem α} {Q Q':α->Shared->Prop} {M:Model} {A:Around} {E:VS} {s:Shared} (h:wpAny M A t Q E s) (hQ:∀ a s,Q a s->Q' a s):wpAny M A t Q' E s:=wpAny_mono h hQ fun _ _ x=>x
section
variable {X:Cx}
theorem bin {a b:Expr} {ta tb:TE} (ha:PE X a ta) (hb:PE X b tb) {pins:Pn} {s:Shared} {σ:St} {H:Hp} {R:V->V->Hp->Prop} (I:Inv X pins σ H s) (h:ta σ H fun x H1=>tb σ H1 fun y H2=>R x y H2)
  {α:Type} {Q:α->Shared->Prop} {f:Value->Value->Sem α}
  (hf:∀ v u s2 x y H2,Inv X pins σ H2 s2->RelV x v->RelV y u->R x y H2->wpAny (model X.prog X.w) X.A (f v u) Q X.xe s2) :
  wpAny (model X.prog X.w) X.A (eval a X.env) (fun v s₁=>wpAny (model X.prog X.w) X.A (eval b X.env) (fun u s₂=>wpAny (model X.prog X.w) X.A (f v u) Q X.xe s₂) X.xe s₁) X.xe s:=by
 refine thn (ha pins s σ H _ I h) fun v s1 Z=>?_;obtain⟨x,H1,I1,r1,q1⟩:=Z;refine thn (hb pins s1 σ H1 _ I1 q1) fun u s2 Z=>?_;obtain⟨y,H2,I2,r2,q2⟩:=Z;exact hf v u s2 x y H2 I2 r1 r2 q2
def cH (i:Nat):TE:=fun σ H Q=>∃ v,σ[i]?=some (some v)/\Q v H
def tC (v:V):TE:=fun _ H Q=>Q v H
theorem xi {i:Nat} {x:Str} {pos:Pos} (hN:X.N[i]?=some x) (hv:Vis X.env.scope x) (hd:autoParam ((x == ("__debug__":Str))=false) d0) (hcd:autoParam ((x == ("__classdict__":Str))=false) d0):PE X (.Name x pos) (cH i):=by
 intro pins s σ H Q I h;obtain⟨v,e,h⟩:=h;obtain⟨m,hn,hl⟩:=I.loc;obtain⟨u,r,l⟩:=hl i x v hN e hv;have fin:EP X pins σ Q u s:=⟨v,H,I,r,h⟩;rcases l with ⟨hk,hm⟩ | ⟨hk,c,hc,hcell⟩
 ·exact wpAny_Name (wpAny_loadName_local I.ok.kind hk hn hm fin) hd
 ·rcases hk with hk | hk
  ·exact wpAny_Name (wpAny_loadName_cell I.ok.kind hk hc hcell fin) hd
  ·exact wpAny_Name (wpAny_loadName_free I.ok.kind hk hc hcell fin hcd) hd
theorem AB {i j pos}:PE X (.Constant (.int i) j pos) (tC (.int i)):=fun _ _ _ H _ I h=>wpAny_Constant_int ⟨.int i,H,I.tok _,⟨_,rfl⟩,h⟩
theorem Mg {b j pos}:PE X (.Constant (.bool b) j pos) (tC (.bl b)):=fun _ _ _ H _ I h=>Constant_bool ⟨.bl b,H,I,rfl,h⟩
theorem Kv {x j pos}:PE X (.Constant (.str x) j pos) (tC (.str x)):=fun _ _ _ H _ I h=>Calls.Constant_str ⟨.str x,H,I.tok _,⟨_,rfl⟩,h⟩
def Gl (X:Cx) (x:Str):Prop:=X.env.kindOf x=some .globalImplicit
theorem l_ {E:VS} {pins:Pn} {s:Shared} {σ:St} {H:Hp} {x:Str} {u:Value} {pos:Pos} {Q:VS} (I:Inv X pins σ H s) (hg:Gl X x) (hm:X.mg x=some u) (h:Q u s)
  (hd:autoParam ((x == ("__debug__":Str))=false) d0):wpAny (model X.prog X.w) X.A (eval (.Name x pos) X.env) Q E s:=
 Calls.Name_function_global I.ok.kind hg (Calls.loadGlobal_global (by rw[I.ok.glob];exact I.mod.glob.keeps I.bk) hm h) hd
theorem jL {E:VS} {pins:Pn} {s:Shared} {σ:St} {H:Hp} {x:Str} {u:Value} {pos:Pos} {Q:VS} (I:Inv X pins σ H s) (hg:Gl X x) (hm:X.mg x=none) (hv:bootBuiltins x=some u) (h:Q u s)
  (hn:autoParam (x≠"__name__") d0) (hd:autoParam ((x == ("__debug__":Str))=false) d0):wpAny (model X.prog X.w) X.A (eval (.Name x pos) X.env) Q E s:=by
 obtain⟨mb,h1,h2⟩:=I.mod.blt;exact Calls.Name_function_global I.ok.kind hg (Calls.loadGlobal_builtin (by rw[I.ok.glob];exact I.mod.glob.keeps I.bk) hm (by rw[I.ok.blt];exact h1.keeps I.bk) ((h2 x hn).trans hv) h) hd
theorem xj {x:Str} {v:V} {u:Value} {pos:Pos} (hg:Gl X x) (hm:X.mg x=some u) (r:RelV v u) (hd:autoParam ((x == ("__debug__":Str))=false) d0):PE X (.Name x pos) (tC v):=
 fun _ _ _ H _ I h=>l_ I hg hm ⟨v,H,I,r,h⟩ hd
theorem Hv {x:Str} {v:V} {u:Value} {pos:Pos} (hg:Gl X x) (hm:X.mg x=none) (hv:bootBuiltins x=some u) (r:RelV v u) (hn:autoParam (x≠"__name__") d0) (hd:autoParam ((x == ("__debug__":Str))=false) d0):PE X (.Name x pos) (tC v):=
 fun _ _ _ H _ I h=>jL I hg hm hv ⟨v,H,I,r,h⟩ hn hd
variable {a b:Expr} {ta tb:TE} {pos:Pos}
def PC (X:Cx) (op:CmpOp) (a b:Expr) (t:TE):Prop:=
 ∀ (pins:Pn) (s:Shared) (σ:St) (H:Hp) (Q:VK),Inv X pins σ H s->t σ H Q->
  wpAny (model X.prog X.w) X.A (eval a X.env) (fun v s₁=>wpAny (model X.prog X.w) X.A (eval b X.env) (fun u s₂=>wpAny (model X.prog X.w) X.A (compareOp op v u) (EP X pins σ Q) X.xe s₂) X.xe s₁) X.xe s
def tB (t:TE):TT:=fun σ H Q=>t σ H fun x H1=>∃ c,x=.bl c/\Q c H1
theorem ND {op:CmpOp} {t:TE} (h:PC X op a b t) (h1:behindInMarks op b=false:=by first | exact nobehind _ (by decide) (by decide) | rfl):PT X (.Compare a [op] [b] pos) (tB t):=by
 intro pins s σ H Q I hw;refine wpAny_isTrue_Compare1 (thn (h pins s σ H _ I hw) fun v s1 h1=>thn h1 fun u s2 h2=>thn h2 fun c s3 Z=>?_) h1;obtain⟨x,H1,I1,r1,q1⟩:=Z;obtain⟨d,rfl,q⟩:=q1;cases r1;exact wpAny_truthy_bool ⟨H1,I1,q⟩
theorem Kk {e:Expr} {t:TE} (h:PE X e t) (he:autoParam (∀ whole,isTrue e X.env whole=(do let v <- whole;standAt e.pos;holding [v] (truthy v))) j0):PT X e (tB t):=by
 intro pins s σ H Q I hw;refine isTrue_plain (thn (h pins s σ H _ I hw) fun v s1 Z=>?_) (he _);obtain⟨x,H1,I1,r1,q1⟩:=Z;obtain⟨d,rfl,q⟩:=q1;cases r1;exact wpAny_truthy_bool ⟨H1,I1,q⟩
variable {tA tB':TT} {rest:List Expr}
def J4 (t u:TT):TT:=fun σ H Q=>t σ H fun c H1=>if c=true then u σ H1 Q else Q false H1
def tOr (t u:TT):TT:=fun σ H Q=>t σ H fun c H1=>if c=true then Q true H1 else u σ H1 Q
def JZ (t:TT):TT:=fun σ H Q=>t σ H fun c H1=>Q (!c) H1
theorem Hf (ha:PT X a tA):PW X (.BoolOp .And [a] pos) tA:=by
 intro wh pins s σ H Q I h;refine isTrue_and (thn (ha pins s σ H Q I h) fun c s1 e=>?_);cases c with
 | true=>exact isTrue_and_nil e
 | false=>exact e
theorem Ki (ha:PT X a tA):PW X (.BoolOp .Or [a] pos) tA:=by
 intro wh pins s σ H Q I h;refine isTrue_or (thn (ha pins s σ H Q I h) fun c s1 e=>?_);cases c with
 | false=>exact isTrue_or_nil e
 | true=>exact e
theorem Kj (ha:PT X a tA) (hb:PW X (.BoolOp .And (b::rest) pos) tB'):PW X (.BoolOp .And (a::b::rest) pos) (J4 tA tB'):=by
 intro wh pins s σ H Q I h;refine isTrue_and (thn (ha pins s σ H _ I h) fun c s1 Z=>?_);obtain⟨H1,I1,q1⟩:=Z;cases c with
 | true=>exact hb wh pins s1 σ H1 Q I1 q1
 | false=>exact⟨H1,I1,q1⟩
theorem L4 (ha:PT X a tA) (hb:PW X (.BoolOp .Or (b::rest) pos) tB'):PW X (.BoolOp .Or (a::b::rest) pos) (tOr tA tB'):=by
 intro wh pins s σ H Q I h;refine isTrue_or (thn (ha pins s σ H _ I h) fun c s1 Z=>?_);obtain⟨H1,I1,q1⟩:=Z;cases c with
 | true=>exact⟨H1,I1,q1⟩
 | false=>exact hb wh pins s1 σ H1 Q I1 q1
theorem Kl (ha:PT X a tA):PT X (.UnaryOp .Not a pos) (JZ tA):=by
 intro pins s σ H Q I h;exact isTrue_not (ha pins s σ H (fun c H1=>Q (!c) H1) I h)
def IM (ta tb:TE):TE:=fun σ H Q=>ta σ H fun x H1=>∃ c,x=.bl c/\if c=true then tb σ H1 Q else Q (.bl false) H1
def LI (ta tb:TE):TE:=fun σ H Q=>ta σ H fun x H1=>∃ c,x=.bl c/\if c=true then Q (.bl true) H1 else tb σ H1 Q
theorem Kw {op} {t:TE} (h:PE X a t):PE X (.BoolOp op [a] pos) t:=fun pins s σ H Q I hw=>BoolOp_one (h pins s σ H Q I hw)
theorem KA (ha:PE X a ta) (hb:PE X (.BoolOp .And (b::rest) pos) tb):PE X (.BoolOp .And (a::b::rest) pos) (IM ta tb):=by
 intro pins s σ H Q I h;refine BoolOp_and (thn (ha pins s σ H _ I h) fun v s1 Z=>?_);obtain⟨x,H1,I1,r1,q1⟩:=Z;obtain⟨c,rfl,q1⟩:=q1;cases r1;refine wpAny_truthy_bool ?_;cases c with
 | true=>exact hb pins s1 σ H1 Q I1 q1
 | false=>exact⟨.bl false,H1,I1,rfl,q1⟩
theorem Md (ha:PE X a ta) (hb:PE X (.BoolOp .Or (b::rest) pos) tb):PE X (.BoolOp .Or (a::b::rest) pos) (LI ta tb):=by
 intro pins s σ H Q I h;refine BoolOp_or (thn (ha pins s σ H _ I h) fun v s1 Z=>?_);obtain⟨x,H1,I1,r1,q1⟩:=Z;obtain⟨c,rfl,q1⟩:=q1;cases r1;refine wpAny_truthy_bool ?_;cases c with
 | false=>exact hb pins s1 σ H1 Q I1 q1
 | true=>exact⟨.bl true,H1,I1,rfl,q1⟩
end
def SqL (K:Fg0) (H:Hp) (a:Addr) (xs:List V):Prop:=
 Rd H a (.lst xs)\/
  ∃ (o:Obj) (its:Array Value) (n:Nat),K.lookup a=some o/\o.cls=.type "list"/\o.dict=none/\o.data=.seq its n/\its.size<=sizeLine/\Vals xs its.toList
def SqT (K:Fg0) (H:Hp) (a:Addr) (xs:List V):Prop:=
 Rd H a (.tup xs)\/
  ∃ (o:Obj) (its:Array Value) (n:Nat),K.lookup a=some o/\o.cls=.type "tuple"/\o.data=.seq its n/\its.size<=sizeLine/\Vals xs its.toList
noncomputable def NP:Value->Option V
 | .none=>some .non
 | .bool b=>some (.bl b)
 | .int i _=>some (.int i)
 | .str x _=>some (.str x)
 | .bytes b _=>some (.byt b)
 | .float b _=>some (.flt b)
 | .ref a=>some (.ref a)
 | .type n=>some (.ty n)
 | _=>none
theorem RelV.abs {x:V} {u:Value} (r:RelV x u):NP u=some x:=by
 cases x with
 | non=>cases r;rfl
 | bl _=>cases r;rfl
 | int _=>obtain⟨t,rfl⟩:=r;rfl
 | str _=>obtain⟨t,rfl⟩:=r;rfl
 | byt _=>obtain⟨t,rfl⟩:=r;rfl
 | flt _=>obtain⟨t,rfl⟩:=r;rfl
 | ref _=>cases r;rfl
 | ty _=>cases r;rfl
theorem RelV.inj {x y:V} {u:Value} (r:RelV x u) (q:RelV y u):x=y:=Option.some.inj (r.abs.symm.trans q.abs)
theorem Vals.inj:∀ {xs ys:List V} {us:Lv0},Vals xs us->Vals ys us->xs=ys
 | _,_,_,.nil,.nil=>rfl
 | _,_,_,.cons r t,.cons r' t'=>by rw[r.inj r',Vals.inj t t']
section
variable {X:Cx} {pins:Pn} {σ:St} {H:Hp} {s:Shared} {a:Addr} {xs ys:List V}
theorem SqL.of {K:Fg0} (h:H a=some (.lst xs)):SqL K H a xs:=.inl (.inl h)
theorem SqT.of {K:Fg0} (h:H a=some (.tup xs)):SqT K H a xs:=.inl (.inl h)
theorem Inv.list (I:Inv X pins σ H s) (h:SqL X.K H a xs):∃ its:Lv0,Vals xs its/\PlainL s.heap a its.toArray/\xs.length<=sizeLine:=by
 rcases h with h | ⟨o,its,n,hk,hc,hd,hs,hz,r⟩
 ·obtain⟨z,its,n,r,e⟩:=h.ok I.hok;exact⟨its,r,⟨_,n,e,rfl,rfl,rfl⟩,z⟩
 ·refine⟨its.toList,r,⟨o,n,I.kIn a o hk,hc,hd,by simpa using hs⟩,?_⟩;have e:=r.length;simp only[Array.length_toList] at e;omega
theorem Inv.tuple (I:Inv X pins σ H s) (h:SqT X.K H a xs):∃ its:Lv0,Vals xs its/\IsTup s.heap a its.toArray/\xs.length<=sizeLine:=by
 rcases h with h | ⟨o,its,n,hk,hc,hs,hz,r⟩
 ·obtain⟨z,its,r,p⟩:=h.ok I.hok;exact⟨its,r,p,z⟩
 ·refine⟨its.toList,r,⟨o,I.kIn a o hk,hc,n,by simpa using hs⟩,?_⟩;have e:=r.length;simp only[Array.length_toList] at e;omega
theorem Inv.zr (I:Inv X pins σ H s) (h:SqL X.K H a xs) (h':SqL X.K H a ys):xs=ys:=by
 obtain⟨its,r,⟨o,n,e,_,_,d⟩,_⟩:=I.list h;obtain⟨its',r',⟨o',n',e',_,_,d'⟩,_⟩:=I.list h';rw[e] at e';cases e';rw[d] at d';injection d' with d1 _
 have:its=its':=by simpa using congrArg Array.toList d1
 subst this;exact r.inj r'
theorem Inv.CM (I:Inv X pins σ H s) (h:SqT X.K H a xs) (h':SqT X.K H a ys):xs=ys:=by
 obtain⟨its,r,⟨o,e,_,n,d⟩,_⟩:=I.tuple h;obtain⟨its',r',⟨o',e',_,n',d'⟩,_⟩:=I.tuple h';rw[e] at e';cases e';rw[d] at d';injection d' with d1 _
 have:its=its':=by simpa using congrArg Array.toList d1
 subst this;exact r.inj r'
end
noncomputable abbrev Cx.u7 (X:Cx) (E:VS):Cx:={ X with xe:=E }
noncomputable abbrev Cx.nox (X:Cx):Cx:=X.u7 fun _ _=>False
theorem Cx.Ok.u7 {X:Cx} (ok:X.Ok) (E:VS):(X.u7 E).Ok:=
 ⟨ok.mod,ok.kind,ok.glob,ok.blt,ok.above,ok.inj,ok.has,ok.cab,ok.hd,ok.frames,ok.stk,ok.exf,ok.bs,ok.bsz,ok.noex,ok.exfs,ok.nI,ok.frf,ok.tb⟩
theorem Cx.Ok.ko {X:Cx} {E:VS} (ok:(X.u7 E).Ok):X.Ok:=
 ⟨ok.mod,ok.kind,ok.glob,ok.blt,ok.above,ok.inj,ok.has,ok.cab,ok.hd,ok.frames,ok.stk,ok.exf,ok.bs,ok.bsz,ok.noex,ok.exfs,ok.nI,ok.frf,ok.tb⟩
section
variable {X:Cx} {pins:Pn} {σ:St} {H:Hp} {s:Shared} {E:VS}
theorem Inv.u7 (I:Inv X pins σ H s) (E:VS):Inv (X.u7 E) pins σ H s:=⟨I.ok.u7 E,I.os,I.bare,I.base,I.loc,I.cell,I.free,I.freeC,I.pin,I.hok,I.len⟩
theorem Inv.ko (I:Inv (X.u7 E) pins σ H s):Inv X pins σ H s:=⟨I.ok.ko,I.os,I.bare,I.base,I.loc,I.cell,I.free,I.freeC,I.pin,I.hok,I.len⟩
theorem SP.ko {D:Ends} {f:Flow} {s':Shared} (h:SP (X.u7 E) pins D f s'):SP X pins D f s':=by
 cases f with
 | next=>obtain⟨σ',H',I,q⟩:=h;exact⟨σ',H',I.ko,q⟩
 | brk=>obtain⟨σ',H',I,q⟩:=h;exact⟨σ',H',I.ko,q⟩
 | cont=>obtain⟨σ',H',I,q⟩:=h;exact⟨σ',H',I.ko,q⟩
 | ret u=>obtain⟨v,σ',H',I,r,q⟩:=h;exact⟨v,σ',H',I.ko,r,q⟩
theorem PSs.nox {st:List Stmt} {t:TS} (h:PSs X.nox st t):PSs X st t:=fun pins s σ H D I hw=>
 wpAny_mono (h pins s σ H D (I.u7 _) hw) (fun _ _ q=>q.ko) fun _ _ z=>False.elim z
end
section
variable {X:Cx} {st:Stmt} {rest:List Stmt} {t u:TS} {e:Expr} {te:TE} {pos:Pos}
def DV:TS:=fun D σ H=>D.nx σ H
def CN (t u:TS):TS:=fun D σ H=>t { D with nx:=u D } σ H
theorem BM:PSs X [] DV:=fun _ _ σ H _ I h=>wpAny_execs_nil ⟨σ,H,I,h⟩
theorem oi (h1:PS X st t) (h2:PSs X rest u):PSs X (st::rest) (CN t u):=by
 intro pins s σ H D I h;refine wpAny_execs_cons (thn (h1 pins s σ H { D with nx:=u D } I h) fun f s1 q=>?_);cases f with
 | next=>
  obtain⟨σ',H',I',q⟩:=q;exact h2 pins s1 σ' H' D I' q
 | ret v=>exact q
 | brk=>exact q
 | cont=>exact q
theorem BL (h1:PS X st t):PSs X [st] t:=by
 intro pins s σ H D I h;refine wpAny_execs_cons (thn (h1 pins s σ H D I h) fun f s1 q=>?_);cases f with
 | next=>exact wpAny_execs_nil q
 | ret v=>exact q
 | brk=>exact q
 | cont=>exact q
theorem Inv.quiet {pins:Pn} {σ:St} {H:Hp} {s:Shared} (I:Inv X pins σ H s):interactive X.env=false:=by simp [interactive,I.ok.kind]
def sX (te:TE):TS:=fun D σ H=>te σ H fun _ H1=>D.nx σ H1
theorem xg (he:PE X e te) (hs:autoParam (swapsWith e none pos.line X.env=pure false) r0):PS X (.Expr e pos) (sX te):=by
 intro pins s σ H D I h;exact wpAny_Expr_any (thn (he pins s σ H _ I h) fun v s1 ⟨x,H1,I1,r1,q1⟩=>⟨σ,H1,I1,q1⟩) I.quiet hs
def LH (te:TE):TS:=fun D σ H=>te σ H D.rt
theorem Ko (he:PE X e te):PS X (.Return (some e) pos) (LH te):=by
 intro pins s σ H D I h;exact wpAny_Return_some (thn (he pins s σ H _ I h) fun v s1 ⟨x,H1,I1,r1,q1⟩=>⟨x,σ,H1,I1,r1,q1⟩)
def J2 (c:TT) (t u:TS):TS:=fun D σ H=>c σ H fun b H1=>if b=true then t D σ H1 else u D σ H1
theorem IZ {c:Expr} {a b:List Stmt} {tc:TT} (hc:PT X c tc) (ha:PSs X a t) (hb:PSs X b u):PS X (.If c a b pos) (J2 tc t u):=by
 intro pins s σ H D I h;refine wpAny_If (thn (hc pins s σ H _ I h) fun d s1 Z=>?_);obtain⟨H1,I1,q1⟩:=Z;cases d with
 | true=>exact ha pins s1 σ H1 D I1 q1
 | false=>exact hb pins s1 σ H1 D I1 q1
def DW:TS:=fun _ _ _=>False
theorem Ew:PS X st DW:=fun _ _ _ _ _ _ h=>h.elim
end
abbrev TG:=V->St->Hp->(St->Hp->Prop)->Prop
abbrev TGs:=List V->St->Hp->(St->Hp->Prop)->Prop
def PG (X:Cx) (target:Expr) (t:TG):Prop:=
 ∀ (pins:Pn) (s:Shared) (σ:St) (H:Hp) (v:V) (u:Value) (Q:St->Hp->Prop),Inv X pins σ H s->RelV v u->t v σ H Q->
  wpAny (model X.prog X.w) X.A (assign target X.env u) (fun _ s'=>∃ σ' H',Inv X pins σ' H' s'/\Q σ' H') X.xe s
def PGs (X:Cx) (ts:List Expr) (t:TGs):Prop:=
 ∀ (pins:Pn) (s:Shared) (σ:St) (H:Hp) (vs:List V) (us:Lv0) (Q:St->Hp->Prop),Inv X pins σ H s->Vals vs us->t vs σ H Q->
  wpAny (model X.prog X.w) X.A (assignInOrder ((assignEach ts X.env).map (·.2)) us) (fun _ s'=>∃ σ' H',Inv X pins σ' H' s'/\Q σ' H') X.xe s
abbrev Lq:=V->V->V->Hp->(Hp->Prop)->Prop
def Nt (X:Cx) (t:Lq):Prop:=
 ∀ (pins:Pn) (s:Shared) (σ:St) (H:Hp) (o i v:V) (ov iv u:Value) (Q:Hp->Prop),Inv X pins σ H s->RelV o ov->RelV i iv->RelV v u->t o i v H Q->
  wpAny (model X.prog X.w) X.A (setItem ov iv u) (fun _ s'=>∃ H',Inv X pins σ H' s'/\Q H') X.xe s
section
variable {X:Cx} {pos:Pos}
def i9 (i:Nat):TG:=fun v σ H Q=>Q (σ.set i (some v)) H
theorem aP {i:Nat} {x:Str} (hN:X.N.Nodup) (hi:X.N[i]?=some x) (hx:Loc X.env.scope x) (hf:autoParam (X.fn x=true\/X.env.scope.names.lookup x=some .local) k0):PG X (.Name x pos) (i9 i):=by
 intro pins s σ H v u Q I r h;exact wpAny_assign_Name (nZ I hN hi hx r (fun s' I'=>⟨_,H,I',h⟩) hf)
def MX:TGs:=fun vs σ H Q=>vs=[]/\Q σ H
def Jy (t:TG) (u:TGs):TGs:=fun vs σ H Q=>∃ v r,vs=v::r/\t v σ H fun σ' H'=>u r σ' H' Q
theorem bZ:PGs X [] MX:=by
 intro pins s σ H vs us Q I r h;obtain⟨e,h⟩:=h;subst e;cases r;exact assignInOrder_nil ⟨σ,H,I,h⟩
theorem aJ {e:Expr} {es:List Expr} {t:TG} {u:TGs} (h1:PG X e t) (h2:PGs X es u)
  (hs:autoParam ((assignEach (e::es) X.env).map (·.2)=assign e X.env::(assignEach es X.env).map (·.2)) r0):PGs X (e::es) (Jy t u):=by
 intro pins s σ H vs us Q I r h;obtain⟨v,vr,e1,h⟩:=h;subst e1;cases r with
 | cons r rr=>
  rw[hs];refine assignInOrder_cons (thn (h1 pins s σ H _ _ _ I r h) fun _ s1 Z=>?_);obtain⟨σ1,H1,I1,q1⟩:=Z;exact h2 pins s1 σ1 H1 _ _ Q I1 rr q1
def Ld (K:Fg0) (n:Nat) (t:TGs):TG:=fun v σ H Q=>∃ a xs,v=.ref a/\SqT K H a xs/\xs.length=n/\t xs σ H Q
theorem ED {es:List Expr} {k:Nat} {t:TGs} {n:Nat} (hc:X.calm=true) (h:PGs X es t)
  (hn:autoParam ((assignEach es X.env).length=n) r0) (hst:autoParam ((assignEach es X.env).findIdx? (·.1)=none) r0):PG X (.Tuple es k pos) (Ld X.K n t):=by
 intro pins s σ H v u Q I r hw;obtain⟨a,xs,e1,hq,hl,hw⟩:=hw;subst e1;cases r;obtain⟨its,rv,ht,hz⟩:=I.tuple hq;refine assign_Tuple_tuple (I.ok.hd hc) ht (by simp [hn,<- hl,rv.length]) hst fun h' hx=>?_;have I1:Inv X pins σ H { s with heap:=h' }:=I.kept (t':=s.toks) fun b o e=>hx b o (Nat.ne_of_lt (Heap.lt_size e)) e;exact h pins _ σ H xs _ Q I1 (by simpa using rv) hw
def uw (to ti:TE) (t:Lq):TG:=fun v σ H Q=>to σ H fun o H1=>ti σ H1 fun i H2=>t o i v H2 fun H3=>Q σ H3
theorem EE {o i:Expr} {to ti:TE} {t:Lq} (ho:PE X o to) (hi:PE X i ti) (hs:Nt X t)
  (ha:∀ v,assign (.Subscript o i pos) X.env v=(do
   let ov <- holding [v] (eval o X.env)
   let iv <- holding [v,ov] (eval i X.env)
   standAt pos
   holding [v,ov,iv] (setItem ov iv v)
   release [v,ov,iv] []):=by intro _;rfl):PG X (.Subscript o i pos) (uw to ti t):=by
 intro pins s σ H v u Q I r h;rw[ha];refine wpAny_bind (wpAny_holding (thn (ho pins s σ H _ I h) fun ov s1 Z=>?_));obtain⟨x,H1,I1,r1,q1⟩:=Z;refine wpAny_bind (wpAny_holding (thn (hi pins s1 σ H1 _ I1 q1) fun iv s2 Z=>?_));obtain⟨y,H2,I2,r2,q2⟩:=Z;refine wpAny_bind (wpAny_standAt (wpAny_bind (wpAny_holding (thn (hs pins s2 σ H2 x y v ov iv u _ I2 r1 r2 r q2) fun _ s3 Z=>?_))));obtain⟨H3,I3,q3⟩:=Z;exact wpAny_release ⟨σ,H3,I3,q3⟩
def hU (te:TE) (g:TG):TS:=fun D σ H=>te σ H fun x H1=>g x σ H1 D.nx
theorem Ax {tg e:Expr} {te:TE} {g:TG} (he:PE X e te) (hg:PG X tg g) (hs:autoParam (swapsWithSole [tg] e pos.line X.env=pure false) r0) (hw:autoParam (swappedStores [tg] e X.env=pure none) r0)
  (h1:autoParam ((assignEach [tg] X.env).map (·.2)=[assign tg X.env]) r0):PS X (.Assign [tg] e pos) (hU te g):=by
 intro pins s σ H D I h;refine wpAny_Assign_stores (thn (he pins s σ H _ I h) fun v s1 Z=>?_) hs hw;obtain⟨x,H1,I1,r1,q1⟩:=Z;rw[h1];exact thn (hg pins s1 σ H1 x v _ I1 r1 q1) fun _ s2 q=>q
theorem Km {i:Nat} {x:Str} {e:Expr} {te:TE} {pos':Pos} (hN:X.N.Nodup) (hi:X.N[i]?=some x) (hx:Loc X.env.scope x) (he:PE X e te) (hs:autoParam (swapsWith e (some (.Name x pos')) pos.line X.env=pure false) r0) (hf:autoParam (X.fn x=true\/X.env.scope.names.lookup x=some .local) k0) :
  PS X (.Assign [.Name x pos'] e pos) (hU te (i9 i)):=by
 intro pins s σ H D I h;refine wpAny_Assign_Name (thn (he pins s σ H _ I h) fun v s1 Z=>?_) hs;obtain⟨y,H1,I1,r1,q1⟩:=Z;exact nZ I1 hN hi hx r1 (fun s2 I2=>⟨_,H1,I2,q1⟩) hf
def JY (i j:Nat) (ta:TA):TS:=fun D σ H=>ta σ H fun vs H1=>∃ v w,vs=[v,w]/\D.nx ((σ.set i (some v)).set j (some w)) H1
theorem Eu {i j:Nat} {x y:Str} {a b:Expr} {ta:TA} {px py pt:Pos} {kt k2 pt2} (hc:X.calm=true) (hN:X.N.Nodup) (hi:X.N[i]?=some x) (hj:X.N[j]?=some y) (hij:i≠j)
  (hx:X.env.scope.names.lookup x=some .local) (hy:X.env.scope.names.lookup y=some .local) (ha:PA X [a,b] ta)
  (hw:swappedStores [.Tuple [.Name x px,.Name y py] kt pt] (.Tuple [a,b] k2 pt2) X.env=pure (some [x,y]))
  (hs:autoParam (swapsWithSole [.Tuple [.Name x px,.Name y py] kt pt] (.Tuple [a,b] k2 pt2) pos.line X.env=pure false) r0) :
  PS X (.Assign [.Tuple [.Name x px,.Name y py] kt pt] (.Tuple [a,b] k2 pt2) pos) (JY i j ta):=by
 intro pins s σ H D I h;rw[exec_Assign_arm];refine wpAny_bind (wpAny_standAt ?_);rw[hs];refine wpAny_bind (wpAny_pure ?_);rw[if_neg (by decide)];refine wpAny_bind (Tuple_ (thn (ha _ pins s σ H _ I h) fun us s1 Z=>?_));obtain⟨vs,H1,I1,r1,q1⟩:=Z;obtain⟨v,w,e1,q1⟩:=q1;subst e1;obtain⟨u1,u2,rfl,rv,rw'⟩:∃ u1 u2,us=[u1,u2]/\RelV v u1/\RelV w u2:=by
  cases r1 with
  | cons p q=>
   cases q with
   | cons p' q'=>
    cases q';exact⟨_,_,rfl,p,p'⟩
 refine wpAny_newObj_type ?_ (by show 2<=sizeLine;decide);have I2:Inv X pins σ H1 { s1 with heap:=s1.heap.push { cls:=.type "tuple",data:=.seq [u1,u2].toArray } }:=I1.kept (t':=s1.toks) fun b o e=>Heap.get?_push_of_some _ e;rw[hw];refine wpAny_bind (wpAny_pure ?_);show wpAny (model X.prog X.w) X.A (do rule "assign.swapped-stores";let items <- unpackItems (.ref s1.heap.objs.size) 2 none;assignInOrder [fun v=>bindName X.env y v,fun v=>bindName X.env x v] items.reverse;pure Flow.next) _ _ _;refine wpAny_bind (wpAny_rule (wpAny_bind (unpackItems_tuple (items:=#[u1,u2]) (I.ok.hd hc) (IsTup.new s1.heap _) fun h' hx'=>?_)));have I3:=I2.kept (h':=h') (t':=s1.toks) fun b o e=>hx' b o (Nat.ne_of_lt (Heap.lt_size e)) e;show wpAny _ _ (assignInOrder [fun v=>bindName X.env y v,fun v=>bindName X.env x v] [u2,u1] >>= fun _=>pure Flow.next) _ _ _;refine wpAny_bind (assignInOrder_cons (wpAny_bindName (nZ I3 hN hj (.inl hy) rw' (fun s2 I4=>?_) (.inr hy))));refine assignInOrder_cons (wpAny_bindName (nZ I4 hN hi (.inl hx) rv (fun s3 I5=>assignInOrder_nil (wpAny_pure ?_)) (.inr hx)));rw[List.set_comm _ _ (Ne.symm hij)] at I5;exact⟨_,H1,I5,q1⟩
end
structure It where
 go:Nat->Hp->Prop
 yld:Nat->Hp->V->Hp->Prop
 stop:Nat->Hp->Prop
def e7 (X:Cx) (pins:Pn) (H:Hp) (b:Addr):Prop:=
 H b=none/\b≠X.env.locals/\b∉X.fs/\(b∈X.ex\/X.s₀.heap.objs.size<=b)/\(∀ x c,X.env.cells.lookup x=some c->c≠b)/\∀ p∈X.pn++pins,p.1≠b
theorem Inv.qu {X:Cx} {pins:Pn} {σ:St} {H H':Hp} {s:Shared} {b:Addr} (I:Inv X pins σ H s) (hb:s.heap.objs.size<=b) (hn:H' b=none):e7 X pins H' b:=by
 refine⟨hn,Nat.ne_of_gt (Nat.lt_of_lt_of_le I.lt hb),I.NG hb,.inr (Nat.le_trans I.sz hb),fun x c e z=>?_,fun p hp z=>?_⟩
 ·obtain⟨v,q⟩:=I.cell x c e;exact absurd (Nat.lt_of_lt_of_le q.lt (by rw[z];exact hb)) (Nat.lt_irrefl _)
 ·exact absurd (Nat.lt_of_lt_of_le (Heap.lt_size (I.pin p hp).1) (by rw[z];exact hb)) (Nat.lt_irrefl _)
structure Turn (P:Program) (w:World) (K:Fg0) (tg:Expr) (J:It) (fp:La0) (it:Addr) (tn:Nat->Heap->Prop):Prop where
 mem:it∈fp
 obj:∀ i h,tn i h->∀ b∈fp,∃ o,h.get? b=some o/\∀ v,o.data≠.cell v
 keep:∀ i h h',tn i h->(∀ b∈fp,∀ o,h.get? b=some o->h'.get? b=some o)->tn i h'
 item:∀ (X:Cx),X.prog=P->X.w=w->X.K=K->X.calm=true->∀ (i:Nat) (pins:Pn) (s:Shared) (σ:St) (H:Hp) (E:VS),Inv X pins σ H s->(∀ b∈fp,e7 X pins H b)->tn i s.heap->J.go i H->
  wpAny (model P w) X.A (pyNext (.ref it)) (fun r s1=>∃ u,r=some u/\
   wpAny (model P w) X.A (letOwnedTupleGo tg (.ref it) u) (fun _ s2=>∃ x H',Inv X pins σ H' s2/\RelV x u/\J.yld i H x H'/\tn (i + 1) s2.heap/\∀ b∈fp,H' b=none) E s1) E s
 done:∀ (X:Cx),X.prog=P->X.w=w->X.K=K->X.calm=true->∀ (i:Nat) (pins:Pn) (s:Shared) (σ:St) (H:Hp) (E:VS),Inv X pins σ H s->(∀ b∈fp,e7 X pins H b)->tn i s.heap->J.stop i H->
  wpAny (model P w) X.A (pyNext (.ref it)) (fun r s1=>r=none/\Inv X pins σ H s1) E s
 self:∀ (A:Around) (i:Nat) (s:Shared) (Q:VS) (E:VS),tn i s.heap->Q (.ref it) s->wpAny (model P w) A (pyIter (.ref it)) Q E s
abbrev TI:=St->Hp->(It->Hp->Prop)->Prop
def PIE (X:Cx) (pins:Pn) (σ:St) (tg:Expr) (R:It->Hp->Prop) (itv:Value) (s2:Shared):Prop:=
 ∃ (it:Addr) (fp:La0) (tn:Nat->Heap->Prop) (J:It) (H':Hp),itv=.ref it/\Inv X pins σ H' s2/\Turn X.prog X.w X.K tg J fp it tn/\tn 0 s2.heap/\(∀ b∈fp,e7 X pins H' b)/\R J H'
def PI (X:Cx) (tg iter:Expr) (wi:TI):Prop:=
 ∀ (pins:Pn) (s:Shared) (σ:St) (H:Hp) (R:It->Hp->Prop),Inv X pins σ H s->wi σ H R->
  wpAny (model X.prog X.w) X.A (eval iter X.env) (fun v s1=>wpAny (model X.prog X.w) X.A (pyIter v) (PIE X pins σ tg R) X.xe s1) X.xe s
theorem Cj {M:Model} {A:Around} {E:VS} {s:Shared} {tg:Expr} {it:Addr} {u:Value} {o:Obj} {n:String} {vs:Array Value} {Q:Unit->Shared->Prop} (ho:s.heap.get? it=some o) (hc:o.cls=.type n) (hd:o.data=.fields vs)
  (hn:["enumerate","zip","dict_itemiterator","dict_reverseitemiterator","odict_iterator","itertools.zip_longest","itertools.pairwise"].contains n=false) (hQ:Q () s):wpAny M A (letOwnedTupleGo tg (.ref it) u) Q E s:=by
 unfold letOwnedTupleGo;cases tg <;> first
  | exact wpAny_pure hQ
  | (cases u <;> first
    | exact wpAny_pure hQ
    | (refine wpAny_bind (wpAny_load ho ?_);rw[hc,hd];show wpAny M A (if (["enumerate","zip","dict_itemiterator","dict_reverseitemiterator","odict_iterator","itertools.zip_longest","itertools.pairwise"].contains n && vs[0]? == some (rawInt _))=true then _ else _) Q E s;rw[if_neg (by intro h;rw[hn,Bool.false_and] at h;cases h)];exact wpAny_pure hQ))
noncomputable def Itl (K:Fg0) (a:Addr):It:=
 ⟨fun i H=>∃ xs x,SqL K H a xs/\xs[i]?=some x,fun i H x H'=>H'=H/\∀ xs,SqL K H a xs->xs[i]?=some x,fun i H=>∃ xs,SqL K H a xs/\xs.length<=i⟩
noncomputable def Itt (K:Fg0) (a:Addr):It:=
 ⟨fun i H=>∃ xs x,SqT K H a xs/\xs[i]?=some x,fun i H x H'=>H'=H/\∀ xs,SqT K H a xs->xs[i]?=some x,fun i H=>∃ xs,SqT K H a xs/\xs.length<=i⟩
noncomputable def Itr (lo:Int) (n:Nat):It:=⟨fun i _=>i < n,fun i H x H'=>H'=H/\x=.int (lo + i),fun i _=>n<=i⟩
theorem CK {P:Program} {w:World} {K:Fg0} {tg:Expr} (a it:Addr):Turn P w K tg (Itl K a) [it] it (fun i h=>h.IsListIter it a i) where
 mem:=by simp
 obj:=fun i h st b hb=>by
  have e:b=it:=by simpa using hb
  subst e;obtain⟨o,e,c,d⟩:=st;exact⟨o,e,fun v z=>by rw[d] at z;cases z⟩
 keep:=fun i h h' st k=>st.at fun o e=>k it (by simp) o e
 item:=by
  intro X hP hw hK hc i pins s σ H E I hf st hg;subst hP hw hK;obtain⟨xs,x,hq,hx⟩:=hg;obtain⟨its,rv,p,hz⟩:=I.list hq;obtain⟨u,hu,ru⟩:=rv.get hx;obtain⟨f0,f1,f2,f3,f4,f5⟩:=hf it (by simp);refine wpAny_pyNext_list_item st p.isList (x:=u) (by simpa using hu) fun h' st' sb=>?_;have I1:Inv X pins σ H { s with heap:=h' }:=I.turned (t':=s.toks) (fun b o hb e=>(sb.2 b hb).trans e) f0 f1 f3 f4 f5;obtain⟨o,e,c,d⟩:=id st';exact⟨u,rfl,Cj (s:={ s with heap:=h' }) e c d (by decide) ⟨x,H,I1,ru,⟨rfl,fun ys hy=>by rw[I.zr hy hq];exact hx⟩,st',fun b hb=>(hf b hb).1⟩⟩
 done:=by
  intro X hP hw hK hc i pins s σ H E I hf st hg;subst hP hw hK;obtain⟨xs,hq,hx⟩:=hg;obtain⟨its,rv,p,hz⟩:=I.list hq;obtain⟨f0,f1,f2,f3,f4,f5⟩:=hf it (by simp);have hl:=rv.length;exact wpAny_pyNext_list_end (I.ok.hd hc) st p.isList (by simp;omega) fun h' eb=>⟨rfl,I.turned (t':=s.toks) (fun b o hb e=>eb b o hb e) f0 f1 f3 f4 f5⟩
 self:=fun _ _ _ _ _ st h=>wpAny_pyIter_listiter st h
theorem Ah {P:Program} {w:World} {K:Fg0} {tg:Expr} (a it:Addr):Turn P w K tg (Itt K a) [it] it (fun i h=>h.IsTupleIter it a i) where
 mem:=by simp
 obj:=fun i h st b hb=>by
  have e:b=it:=by simpa using hb
  subst e;obtain⟨o,e,c,d⟩:=st;exact⟨o,e,fun v z=>by rw[d] at z;cases z⟩
 keep:=fun i h h' st k=>st.at fun o e=>k it (by simp) o e
 item:=by
  intro X hP hw hK hc i pins s σ H E I hf st hg;subst hP hw hK;obtain⟨xs,x,hq,hx⟩:=hg;obtain⟨its,rv,p,hz⟩:=I.tuple hq;obtain⟨u,hu,ru⟩:=rv.get hx;obtain⟨f0,f1,f2,f3,f4,f5⟩:=hf it (by simp);refine wpAny_pyNext_tuple_item st (show s.heap.IsTuple a its.toArray from p) (x:=u) (by simpa using hu) fun h' st' sb=>?_;have I1:Inv X pins σ H { s with heap:=h' }:=I.turned (t':=s.toks) (fun b o hb e=>(sb.2 b hb).trans e) f0 f1 f3 f4 f5;obtain⟨o,e,c,d⟩:=id st';exact⟨u,rfl,Cj (s:={ s with heap:=h' }) e c d (by decide) ⟨x,H,I1,ru,⟨rfl,fun ys hy=>by rw[I.CM hy hq];exact hx⟩,st',fun b hb=>(hf b hb).1⟩⟩
 done:=by
  intro X hP hw hK hc i pins s σ H E I hf st hg;subst hP hw hK;obtain⟨xs,hq,hx⟩:=hg;obtain⟨its,rv,p,hz⟩:=I.tuple hq;obtain⟨f0,f1,f2,f3,f4,f5⟩:=hf it (by simp);have hl:=rv.length;exact wpAny_pyNext_tuple_end (I.ok.hd hc) st (show s.heap.IsTuple a its.toArray from p) (by simp;omega) fun h' eb=>⟨rfl,I.turned (t':=s.toks) (fun b o hb e=>eb b o hb e) f0 f1 f3 f4 f5⟩
 self:=fun _ _ _ _ _ st h=>wpAny_pyIter_tupleiter st h
theorem Ai {P:Program} {w:World} {K:Fg0} {tg:Expr} (it:Addr) (lo:Int) (n:Nat):Turn P w K tg (Itr lo n) [it] it (fun i h=>IsRangeIter h it (lo + (i:Nat) * 1) ((n:Int) - (i:Nat)) 1) where
 mem:=by simp
 obj:=fun i h st b hb=>by
  have e:b=it:=by simpa using hb
  subst e;exact⟨_,st,fun v z=>by
   have z':Data.fields _=Data.cell v:=z;cases z'⟩
 keep:=fun i h h' st k=>k it (by simp) _ st
 item:=by
  intro X hP hw hK hc i pins s σ H E I hf st hg;subst hP hw hK;obtain⟨f0,f1,f2,f3,f4,f5⟩:=hf it (by simp);have W:=Walks.range (prog:=X.prog) (w:=X.w) (I.ok.hd hc) it lo 1 n;refine W.item i s _ _ hg st fun v h' tk hv st' kk=>?_;obtain⟨t,rfl⟩:=hv;have I1:Inv X pins σ H { s with heap:=h',toks:=tk }:=I.turned (fun b o hb e=>kk b o (by simpa using hb) e) f0 f1 f3 f4 f5;refine⟨_,rfl,Cj (s:={ s with heap:=h',toks:=tk }) (n:="range_iterator") st' rfl rfl (by decide) ⟨.int (lo + i),H,I1,⟨t,?_⟩,⟨rfl,rfl⟩,st',fun b hb=>(hf b hb).1⟩⟩;rw[Int.mul_one]
 done:=by
  intro X hP hw hK hc i pins s σ H E I hf st hg;subst hP hw hK;obtain⟨f0,f1,f2,f3,f4,f5⟩:=hf it (by simp);exact wpAny_pyNext_range_end (I.ok.hd hc) st (by have:n<=i:=hg;omega) fun h' eb=>⟨rfl,I.turned (t':=s.toks) (fun b o hb e=>eb b o hb e) f0 f1 f3 f4 f5⟩
 self:=fun _ _ _ _ _ st h=>wpAny_pyIter_rangeiter st h
section
variable {X:Cx} {tg:Expr}
def Ju (K:Fg0) (tl:TE):TI:=fun σ H R=>tl σ H fun x H1=>∃ a,x=.ref a/\(∃ xs,SqL K H1 a xs)/\R (Itl K a) H1
def MP (K:Fg0) (tl:TE):TI:=fun σ H R=>tl σ H fun x H1=>∃ a,x=.ref a/\(∃ xs,SqT K H1 a xs)/\R (Itt K a) H1
theorem Ho {l:Expr} {tl:TE} (hl:PE X l tl):PI X tg l (Ju X.K tl):=by
 intro pins s σ H R I h;refine thn (hl pins s σ H _ I h) fun v s1 Z=>?_;obtain⟨x,H1,I1,r1,q1⟩:=Z;obtain⟨a,e,⟨xs,hq⟩,q⟩:=q1;subst e;cases r1;obtain⟨its,rv,p,hz⟩:=I1.list hq;refine wpAny_pyIter_list p.isList ?_;refine⟨s1.heap.objs.size,[s1.heap.objs.size],_,_,H1,rfl,I1.kept (t':=s1.toks) fun b o e=>Heap.get?_push_of_some _ e,CK a _,⟨_,Heap.get?_push_size _ rfl,rfl,rfl⟩,fun b hb=>?_,q⟩;have e:b=s1.heap.objs.size:=by simpa using hb
 subst e;exact I1.qu (Nat.le_refl _) (I1.hok.fresh (Nat.le_refl _))
theorem Kt {l:Expr} {tl:TE} (hl:PE X l tl):PI X tg l (MP X.K tl):=by
 intro pins s σ H R I h;refine thn (hl pins s σ H _ I h) fun v s1 Z=>?_;obtain⟨x,H1,I1,r1,q1⟩:=Z;obtain⟨a,e,⟨xs,hq⟩,q⟩:=q1;subst e;cases r1;obtain⟨its,rv,p,hz⟩:=I1.tuple hq;refine wpAny_pyIter_tuple (show s1.heap.IsTuple a its.toArray from p) ?_;refine⟨s1.heap.objs.size,[s1.heap.objs.size],_,_,H1,rfl,I1.kept (t':=s1.toks) fun b o e=>Heap.get?_push_of_some _ e,Ah a _,⟨_,Heap.get?_push_size _ rfl,rfl,rfl⟩,fun b hb=>?_,q⟩;have e:b=s1.heap.objs.size:=by simpa using hb
 subst e;exact I1.qu (Nat.le_refl _) (I1.hok.fresh (Nat.le_refl _))
theorem Ek {pins:Pn} {σ:St} {H:Hp} {s:Shared} {R:It->Hp->Prop} {E:VS} {lo hi:Int} {t u v:Tok} {tk:Nat} (I:Inv X pins σ H s) (h1:-(2 ^ 62)<=lo) (h2:lo < 2 ^ 62) (h3:-(2 ^ 62)<=hi) (h4:hi < 2 ^ 62)
  (q:R (Itr lo (hi - lo).toNat) H):wpAny (model X.prog X.w) X.A (pyIter (.ref s.heap.objs.size)) (PIE X pins σ tg R) E { s with heap:=s.heap.push { cls:=.type "range",data:=.fields #[.int lo t,.int hi u,.int 1 v] },toks:=tk }:=by
 refine wpAny_pyIter_range (IsRange.new ..) (small_one h1 h2 h3 h4) ?_;have I1:Inv X pins σ H { s with heap:=s.heap.push { cls:=.type "range",data:=.fields #[.int lo t,.int hi u,.int 1 v] },toks:=tk }:=I.kept fun b o e=>Heap.get?_push_of_some _ e;refine⟨(s.heap.push { cls:=.type "range",data:=.fields #[.int lo t,.int hi u,.int 1 v] }).objs.size,[(s.heap.push { cls:=.type "range",data:=.fields #[.int lo t,.int hi u,.int 1 v] }).objs.size],_,_,H,rfl,
  I1.kept (t':=tk) fun b o e=>Heap.get?_push_of_some _ e,Ai _ lo (hi - lo).toNat,?_,fun b hb=>?_,q⟩
 ·have e1:lo + ((0:Nat):Int) * 1=lo:=by simp
  have e2:(((hi - lo).toNat:Nat):Int) - ((0:Nat):Int)=Builtin.Range.rangeSize lo hi 1:=by rw[rangeSize_one];split <;> omega
  show IsRangeIter _ _ (lo + ((0:Nat):Int) * 1) ((((hi - lo).toNat:Nat):Int) - ((0:Nat):Int)) 1;rw[e1,e2];exact Heap.get?_push_size _ rfl
 ·have e:b=(s.heap.push { cls:=.type "range",data:=.fields #[.int lo t,.int hi u,.int 1 v] }).objs.size:=by simpa using hb
  subst e;exact I1.qu (Nat.le_refl _) (I1.hok.fresh (Nat.le_refl _))
def Jt (ta:TA):TI:=fun σ H R=>ta σ H fun vs H1=>∃ j:Int,vs=[.int j]/\-(2 ^ 62)<=j/\j < 2 ^ 62/\R (Itr 0 j.toNat) H1
theorem C4 {a:Expr} {ta:TA} {p pos:Pos} (hg:Gl X "range") (hm:X.mg "range"=none) (ha:PA X [a] ta) (hs:autoParam (starEach [a] X.env=[(false,eval a X.env)]) r0):PI X tg (.Call (.Name "range" p) [a] [] pos) (Jt ta):=by
 intro pins s σ H R I h;refine Call_ (jL I hg hm boot_range (PyProof.Rows.callWith_type1 (thn (ha pos pins s σ H _ I h) fun us s1 Z=>?_) hs rfl));obtain⟨vs,H1,I1,r1,q1⟩:=Z;obtain⟨j,e,q1,q2,q⟩:=q1;subst e;cases r1 with
 | cons r rr=>
  cases rr;obtain⟨t,rfl⟩:=r;exact call_range_1 (Ek I1 (by omega) (by omega) q1 q2 (by simpa using q))
def J3 (wi:TI) (g:TG) (tb:TS):TS:=fun D σ H=>wi σ H fun J H1=>∃ W:Nat->Nat->St->Hp->Prop,(∃ m,W 0 m σ H1)/\∀ i m σ H,W i m σ H->
 (J.stop i H/\D.nx σ H)\/(J.go i H/\∃ N:St->Hp->Prop,(∀ σ' H',N σ' H'->∃ m',m' < m/\W (i + 1) m' σ' H')/\∀ x H',J.yld i H x H'->g x σ H' fun σ2 H2=>tb { D with nx:=N,ct:=N,bk:=D.nx } σ2 H2)
noncomputable def tV (fp:La0) (h:Heap):Pn:=fp.filterMap fun b=>(h.get? b).map fun o=>(b,o)
theorem eO {fp:La0} {h:Heap} {b:Addr} {o:Obj} (hb:b∈fp) (e:h.get? b=some o):(b,o)∈tV fp h:=List.mem_filterMap.mpr ⟨b,hb,by rw[e];rfl⟩
theorem vW {fp:La0} {h:Heap} {p:Addr×Obj} (hp:p∈tV fp h):p.1∈fp/\h.get? p.1=some p.2:=by
 obtain⟨b,hb,e⟩:=List.mem_filterMap.mp hp;cases q:h.get? b with
 | none=>rw[q] at e;cases e
 | some o=>
  rw[q] at e;have e':(b,o)=p:=Option.some.inj e;subst e';exact⟨hb,q⟩
theorem Inv.pinned {pins:Pn} {σ:St} {H:Hp} {s:Shared} {fp:La0} (I:Inv X pins σ H s) (hf:∀ b∈fp,e7 X pins H b) (ho:∀ b∈fp,∃ o,s.heap.get? b=some o/\∀ v,o.data≠.cell v):Inv X (pins++tV fp s.heap) σ H s:=
 I.jI fun p hp=>(List.mem_append.mp hp).elim (fun z=>I.pin p (List.mem_append_right _ z)) fun z=>by
  obtain⟨hb,e⟩:=vW z;obtain⟨f0,f1,f2,_⟩:=hf p.1 hb;obtain⟨o,e',d⟩:=ho p.1 hb;rw[e] at e';cases e';exact⟨e,f0,f1,f2,d⟩
theorem Inv.sW {pins pl:Pn} {σ:St} {H:Hp} {s:Shared} (I:Inv X (pins++pl) σ H s):Inv X pins σ H s:=I.jI fun p hp=>I.pin p (List.mem_append_right _ (List.mem_append_left _ hp))
theorem Ex {iter:Expr} {body:List Stmt} {wi:TI} {g:TG} {tb:TS} {pos:Pos} (hp:PassesOwn (model X.prog X.w) X.A X.env X.xe) (hc:X.calm=true) (hi:PI X tg iter wi) (hg:PG X tg g) (hb:PSs X body tb)
  (hs:autoParam (∀ x,foldedSetIterable iter X.env x=pure x) j0):PS X (.For tg iter body [] pos) (J3 wi g tb):=by
 intro pins s σ H D I h;refine wpAny_For (thn (hi pins s σ H _ I h) fun v s1 h1=>thn h1 fun itv s2 h2=>?_) hs;obtain⟨it,fp,tn,J,H2,e,I2,T,st2,f2,W,⟨m0,w0⟩,turn⟩:=h2;subst e;have stat:∀ {H':Hp},(∀ b∈fp,H' b=none)->∀ b∈fp,e7 X pins H' b:=fun hn b hb=>⟨hn b hb,(f2 b hb).2⟩;refine codeAny_forLoop_any (fun n s'=>∃ i σ' H',Inv X pins σ' H' s'/\tn i s'.heap/\(∀ b∈fp,H' b=none)/\W i n σ' H') ?_ m0 ⟨0,σ,H2,I2,st2,fun b hb=>(f2 b hb).1,w0⟩;rintro n s3 ⟨i,σ3,H3,I3,st3,fr3,w3⟩;rcases turn i n σ3 H3 w3 with ⟨stop,qn⟩ | ⟨go,N,hN,step⟩
 ·refine wpAny_passesOwn hp (thn (T.done X rfl rfl rfl hc i pins s3 σ3 H3 X.xe I3 (stat fr3) st3 stop) fun r s4 Z=>?_);obtain⟨hr,I4⟩:=Z;subst hr;exact wpAny_execs_nil ⟨σ3,H3,I4,qn⟩
 ·refine wpAny_passesOwn hp (thn (T.item X rfl rfl rfl hc i pins s3 σ3 H3 X.xe I3 (stat fr3) st3 go) fun r s4 Z=>?_);obtain⟨u,hr,h4⟩:=Z;subst hr;refine wpAny_passesOwn hp (thn h4 fun _ s5 Z=>?_);obtain⟨x,H5,I5,r5,y5,st5,fr5⟩:=Z;have I5':=I5.pinned (stat fr5) (T.obj _ _ st5);refine wpAny_passesOwn hp (thn (hg _ s5 σ3 H5 x u _ I5' r5 (step x H5 y5)) fun _ s6 Z=>?_);obtain⟨σ6,H6,I6,q6⟩:=Z;refine wpAny_passesOwn hp (thn (hb _ s6 σ6 H6 _ I6 q6) fun f s7 q7=>?_);have again:∀ {σ7:St} {H7:Hp},Inv X (pins++tV fp s5.heap) σ7 H7 s7->N σ7 H7->∃ m,m < n/\∃ i σ' H',Inv X pins σ' H' s7/\tn i s7.heap/\(∀ b∈fp,H' b=none)/\W i m σ' H':=fun {σ7 H7} I7 n7=>by
   obtain⟨m',hm,w7⟩:=hN σ7 H7 n7;refine⟨m',hm,i + 1,σ7,H7,I7.sW,T.keep _ _ _ st5 fun b hb o e=>(I7.pin (b,o) (List.mem_append_right _ (List.mem_append_right _ (eO hb e)))).1,fun b hb=>?_,w7⟩;obtain⟨o,e,d⟩:=T.obj _ _ st5 b hb;exact(I7.pin (b,o) (List.mem_append_right _ (List.mem_append_right _ (eO hb e)))).2.1
  cases f with
  | next=>obtain⟨σ7,H7,I7,n7⟩:=q7;exact again I7 n7
  | cont=>obtain⟨σ7,H7,I7,n7⟩:=q7;exact again I7 n7
  | brk=>obtain⟨σ7,H7,I7,q7⟩:=q7;exact⟨σ7,H7,I7.sW,q7⟩
  | ret v=>obtain⟨x7,σ7,H7,I7,r7,q7⟩:=q7;exact⟨x7,σ7,H7,I7.sW,r7,q7⟩
end
abbrev R2:=V->V->Hp->VK->Prop
def OpR (X:Cx) (f:Value->Value->Sem Value) (r:R2):Prop:=
 ∀ (pins:Pn) (s:Shared) (σ:St) (H:Hp) (x y:V) (v u:Value) (Q:VK),Inv X pins σ H s->RelV x v->RelV y u->r x y H Q->
  wpAny (model X.prog X.w) X.A (f v u) (EP X pins σ Q) X.xe s
def UnR (X:Cx) (f:Value->Sem Value) (r:V->Hp->VK->Prop):Prop:=
 ∀ (pins:Pn) (s:Shared) (σ:St) (H:Hp) (x:V) (v:Value) (Q:VK),Inv X pins σ H s->RelV x v->r x H Q->
  wpAny (model X.prog X.w) X.A (f v) (EP X pins σ Q) X.xe s
def bV (X:Cx) (f:Value) (r:List V->Hp->VK->Prop):Prop:=
 ∀ (pins:Pn) (s:Shared) (σ:St) (H:Hp) (xs:List V) (us:Lv0) (Q:VK),Inv X pins σ H s->Vals xs us->r xs H Q->
  wpAny (model X.prog X.w) X.A (call f us) (EP X pins σ Q) X.xe s
def tOp (r:R2) (ta tb:TE):TE:=fun σ H Q=>ta σ H fun x H1=>tb σ H1 fun y H2=>r x y H2 Q
def tUn (r:V->Hp->VK->Prop) (ta:TE):TE:=fun σ H Q=>ta σ H fun x H1=>r x H1 Q
def rI (C:Int->Int->Prop) (g:Int->Int->V):R2:=fun x y H Q=>∃ i j,x=.int i/\y=.int j/\C i j/\Q (g i j) H
def rI0 (g:Int->Int->V):R2:=fun x y H Q=>∃ i j,x=.int i/\y=.int j/\Q (g i j) H
def rU (g:Int->V):V->Hp->VK->Prop:=fun x H Q=>∃ i,x=.int i/\Q (g i) H
section
variable {X:Cx} {a b c:Expr} {ta tb tc:TE} {pos:Pos}
theorem Lm (ha:PE X a ta) (hb:PE X b tb) {pins:Pn} {s:Shared} {σ:St} {H:Hp} {R:V->V->Hp->Prop} (I:Inv X pins σ H s)
  (h:ta σ H fun x H1=>tb σ H1 fun y H2=>R x y H2) {Q:VS} {f:Value->Value->Sem Value}
  (hf:∀ v u s2 x y H2,Inv X pins σ H2 s2->RelV x v->RelV y u->R x y H2->wpAny (model X.prog X.w) X.A (f v u) Q X.xe s2) :
  wpAny (model X.prog X.w) X.A (eval a X.env) (fun v s₁=>wpAny (model X.prog X.w) X.A (eval b X.env) (fun u s₂=>wpAny (model X.prog X.w) X.A (f v u) Q X.xe s₂) X.xe s₁) X.xe s:=by
 refine thn (ha pins s σ H _ I h) fun v s1 Z=>?_;obtain⟨x,H1,I1,r1,q1⟩:=Z;refine thn (hb pins s1 σ H1 _ I1 q1) fun u s2 Z=>?_;obtain⟨y,H2,I2,r2,q2⟩:=Z;exact hf v u s2 x y H2 I2 r1 r2 q2
theorem qD {op:Operator} {r:R2} (ho:OpR X (binaryOp op) r) (ha:PE X a ta) (hb:PE X b tb):PE X (.BinOp a op b pos) (tOp r ta tb):=by
 intro pins s σ H Q I h;exact wpAny_BinOp (Lm ha hb I h fun v u s2 x y H2 I2 rx ry q=>ho pins s2 σ H2 x y v u Q I2 rx ry q)
theorem Mc {op:UnaryOp} {r:V->Hp->VK->Prop} (ho:UnR X (unaryOp op) r) (ha:PE X a ta):PE X (.UnaryOp op a pos) (tUn r ta):=by
 intro pins s σ H Q I h;exact UnaryOp_ (thn (ha pins s σ H _ I h) fun v s1 ⟨x,H1,I1,r1,q1⟩=>ho pins s1 σ H1 x v Q I1 r1 q1)
theorem opI {f:Value->Value->Sem Value} {C:Int->Int->Prop} {g:Int->Int->Int}
  (rule:∀ (i j:Int) (t u:Tok) (s:Shared) (Q:VS) (E:VS),C i j->Q (.int (g i j) s.toks) { s with toks:=s.toks + 1 }->wpAny (model X.prog X.w) X.A (f (.int i t) (.int j u)) Q E s) :
  OpR X f (rI C fun i j=>.int (g i j)):=by
 intro pins s σ H x y v u Q I rx ry h;obtain⟨i,j,rfl,rfl,hc,q⟩:=h;obtain⟨t,rfl⟩:=rx;obtain⟨t',rfl⟩:=ry;exact rule i j t t' s _ _ hc ⟨.int (g i j),H,I.tok _,⟨_,rfl⟩,q⟩
theorem AJ {f:Value->Value->Sem Value} {g:Int->Int->Int}
  (rule:∀ (i j:Int) (t u:Tok) (s:Shared) (Q:VS) (E:VS),Q (.int (g i j) s.toks) { s with toks:=s.toks + 1 }->wpAny (model X.prog X.w) X.A (f (.int i t) (.int j u)) Q E s) :
  OpR X f (rI0 fun i j=>.int (g i j)):=by
 intro pins s σ H x y v u Q I rx ry h;obtain⟨i,j,rfl,rfl,q⟩:=h;obtain⟨t,rfl⟩:=rx;obtain⟨t',rfl⟩:=ry;exact rule i j t t' s _ _ ⟨.int (g i j),H,I.tok _,⟨_,rfl⟩,q⟩
theorem KO {f:Value->Value->Sem Value} {g:Int->Int->Bool}
  (rule:∀ (i j:Int) (t u:Tok) (s:Shared) (Q:VS) (E:VS),Q (.bool (g i j)) s->wpAny (model X.prog X.w) X.A (f (.int i t) (.int j u)) Q E s) :
  OpR X f (rI0 fun i j=>.bl (g i j)):=by
 intro pins s σ H x y v u Q I rx ry h;obtain⟨i,j,rfl,rfl,q⟩:=h;obtain⟨t,rfl⟩:=rx;obtain⟨t',rfl⟩:=ry;exact rule i j t t' s _ _ ⟨.bl (g i j),H,I,rfl,q⟩
def Lv (i j:Int):Prop:=0 < j/\j < 1073741824
def GF (i j:Int):Prop:=0<=j/\j<=1000000/\i.natAbs < 2 ^ 64
def GG (i j:Int):Prop:=(-(2 ^ 64) < i/\i < 2 ^ 64)\/(-(2 ^ 64) < j/\j < 2 ^ 64)
theorem GG.ok {i j:Int} (h:GG i j):IntMulOk i j:=by
 rcases h with ⟨h1,h2⟩ | ⟨h1,h2⟩
 ·exact .of_left (intBits_le_64 h1 h2)
 ·exact .of_right (intBits_le_64 h1 h2)
theorem KN:OpR X (binaryOp .Add) (rI0 fun i j=>.int (i + j)):=AJ fun _ _ _ _ _ _ _ q=>add_int q
theorem KD:OpR X (binaryOp .Sub) (rI0 fun i j=>.int (i - j)):=AJ fun _ _ _ _ _ _ _ q=>sub_int q
theorem KH:OpR X (binaryOp .Mult) (rI GG fun i j=>.int (i * j)):=opI fun _ _ _ _ _ _ _ hc q=>mul_int q hc.ok
theorem HF:OpR X (binaryOp .FloorDiv) (rI Lv fun i j=>.int (i / j)):=opI fun i j _ _ _ _ _ hc q=>by
 have h1:(0:Int) < j:=hc.1;have h2:j < 1073741824:=hc.2;exact floordiv_int (by omega) (by rw[Int.fdiv_eq_ediv_of_nonneg i (by omega)];exact q) (.inl (PyProof.noPylong_small (by omega)))
theorem KI:OpR X (binaryOp .Mod) (rI (fun _ j=>0 < j) fun i j=>.int (i % j)):=opI fun i j _ _ _ _ _ hc q=>by
 have h1:(0:Int) < j:=hc;exact mod_int' (by omega) (by rw[Int.fmod_eq_emod_of_nonneg i (by omega)];exact q)
theorem EZ:OpR X (binaryOp .Pow) (rI GF fun i j=>.int (i ^ j.toNat)):=opI fun _ _ _ _ _ _ _ hc q=>pow_int_small hc.1 hc.2.1 hc.2.2 q
theorem unI {f:Value->Sem Value} {g:Int->Int}
  (rule:∀ (i:Int) (t:Tok) (s:Shared) (Q:VS) (E:VS),Q (.int (g i) s.toks) { s with toks:=s.toks + 1 }->wpAny (model X.prog X.w) X.A (f (.int i t)) Q E s) :
  UnR X f (rU fun i=>.int (g i)):=by
 intro pins s σ H x v Q I rx h;obtain⟨i,rfl,q⟩:=h;obtain⟨t,rfl⟩:=rx;exact rule i t s _ _ ⟨.int (g i),H,I.tok _,⟨_,rfl⟩,q⟩
theorem JU:UnR X (unaryOp .USub) (rU fun i=>.int (-i)):=unI fun _ _ _ _ _ q=>neg_int q
theorem Ba {pins:Pn} {σ:St} {H:Hp} {s:Shared} {Q:VK} {k k':Bool} (I:Inv X pins σ H s) (q:Q (.bl k) H) (e:k=k'):EP X pins σ Q (.bool k') s:=by
 subst e;exact⟨.bl k,H,I,rfl,q⟩
theorem Mi:OpR X (compareOp .Lt) (rI0 fun i j=>.bl (decide (i < j))):=KO fun _ _ _ _ _ _ _ q=>lt_int q
theorem Mj:OpR X (compareOp .LtE) (rI0 fun i j=>.bl (decide (i<=j))):=KO fun _ _ _ _ _ _ _ q=>le_int q
theorem Ml:OpR X (compareOp .Gt) (rI0 fun i j=>.bl (decide (j < i))):=KO fun _ _ _ _ _ _ _ q=>gt_int q
theorem C9:OpR X (compareOp .In) (fun x y H Q=>∃ i j,x=.str i/\y=.str j/\Q (.bl (!(Builtin.Str.occurrences j i 0 j.length 1).isEmpty)) H):=by
 intro pins s σ H x y v u Q I rx ry h;obtain⟨i,j,rfl,rfl,q⟩:=h;obtain⟨t,rfl⟩:=rx;obtain⟨t',rfl⟩:=ry;exact in_str (Ba I q rfl)
theorem OpR.or {f:Value->Value->Sem Value} {r r':R2} (h:OpR X f r) (h':OpR X f r'):OpR X f (fun x y H Q=>r x y H Q\/r' x y H Q):=by
 intro pins s σ H x y v u Q I rx ry q;rcases q with q | q
 ·exact h pins s σ H x y v u Q I rx ry q
 ·exact h' pins s σ H x y v u Q I rx ry q
theorem ba (b:Expr) {op:CmpOp} (h:autoParam (op≠.In) d0) (h2:autoParam (op≠.NotIn) d0):behindInMarks op b=false:=by
 have e1:(op == CmpOp.In)=false:=by cases op <;> first | rfl | exact absurd rfl h
 have e2:(op == CmpOp.NotIn)=false:=by cases op <;> first | rfl | exact absurd rfl h2
 cases b <;> simp [behindInMarks,e1,e2]
theorem Hu {op:CmpOp} {r:R2} (ho:OpR X (compareOp op) r) (ha:PE X a ta) (hb:PE X b tb) (hm:behindInMarks op b=false):PE X (.Compare a [op] [b] pos) (tOp r ta tb):=by
 intro pins s σ H Q I h;exact wpAny_Compare1 (Lm ha hb I h fun v u s2 x y H2 I2 rx ry q=>ho pins s2 σ H2 x y v u Q I2 rx ry q) hm
def Bz (t:TE):TT:=fun σ H Q=>t σ H fun x H'=>∃ k,x=.bl k/\Q k H'
theorem Hi {op:CmpOp} {r:R2} (ho:OpR X (compareOp op) r) (ha:PE X a ta) (hb:PE X b tb) (hm:behindInMarks op b=false):PT X (.Compare a [op] [b] pos) (Bz (tOp r ta tb)):=by
 intro pins s σ H Q I h;refine wpAny_isTrue_Compare1 (thn (ha pins s σ H _ I h) fun v s1 ⟨x,H1,I1,r1,q1⟩=>thn (hb pins s1 σ H1 _ I1 q1) fun u s2 ⟨y,H2,I2,r2,q2⟩=>
  thn (ho pins s2 σ H2 x y v u _ I2 r1 r2 q2) fun c s3 ⟨z,H3,I3,r3,k,e,q3⟩=>?_) hm
 subst e;cases r3;exact wpAny_truthy_bool ⟨H3,I3,q3⟩
def sZ (r r':R2) (ta tb tc:TE):TE:=fun σ H Q=>ta σ H fun x H1=>tb σ H1 fun y H2=>r x y H2 fun z H3=>∃ k,z=.bl k/\
 (if k=true then tc σ H3 fun w' H4=>r' y w' H4 Q else Q (.bl false) H3)
theorem EI {op op':CmpOp} {r r':R2} (ho:OpR X (compareOp op) r) (ho':OpR X (compareOp op') r') (ha:PE X a ta) (hb:PE X b tb) (hc:PE X c tc)
  (hm:autoParam (lastMarks [op,op'] [b,c]=false) u0):PE X (.Compare a [op,op'] [b,c] pos) (sZ r r' ta tb tc):=by
 intro pins s σ H Q I h;refine Compare_chain (thn (ha pins s σ H _ I h) fun v s1 ⟨x,H1,I1,r1,q1⟩=>chain_link (thn (hb pins s1 σ H1 _ I1 q1) fun u s2 ⟨y,H2,I2,r2,q2⟩=>
  thn (ho pins s2 σ H2 x y v u _ I2 r1 r2 q2) fun d s3 ⟨z,H3,I3,r3,k,e,q3⟩=>?_)) hm
 subst e;cases r3;refine wpAny_truthy_bool ?_;cases k with
 | false=>exact ite_ff ⟨.bl false,H3,I3,rfl,q3⟩
 | true=>exact ite_tt (chain_last (thn (hc pins s3 σ H3 _ I3 q3) fun w' s4 ⟨z',H4,I4,r4,q4⟩=>ho' pins s4 σ H4 y z' u w' Q I4 r2 r4 q4))
theorem Es {op op':CmpOp} {r r':R2} (ho:OpR X (compareOp op) r) (ho':OpR X (compareOp op') r') (ha:PE X a ta) (hb:PE X b tb) (hc:PE X c tc)
  (hm:autoParam (lastMarks [op,op'] [b,c]=false) u0):PT X (.Compare a [op,op'] [b,c] pos) (Bz (sZ r r' ta tb tc)):=by
 intro pins s σ H Q I h;refine isTrue_chain (thn (ha pins s σ H _ I h) fun v s1 ⟨x,H1,I1,r1,q1⟩=>test_link (thn (hb pins s1 σ H1 _ I1 q1) fun u s2 ⟨y,H2,I2,r2,q2⟩=>
  thn (ho pins s2 σ H2 x y v u _ I2 r1 r2 q2) fun d s3 ⟨z,H3,I3,r3,k,e,q3⟩=>?_)) hm
 subst e;cases r3;refine wpAny_truthy_bool ?_;cases k with
 | false=>
  obtain⟨k',e',q'⟩:=q3;cases e';exact ite_ff ⟨H3,I3,q'⟩
 | true=>
  refine ite_tt (test_last (thn (hc pins s3 σ H3 _ I3 q3) fun w' s4 ⟨z',H4,I4,r4,q4⟩=>thn (ho' pins s4 σ H4 y z' u w' _ I4 r2 r4 q4) fun d' s5 Z=>?_));obtain⟨z2,H5,I5,r5,k2,e2,q5⟩:=Z;subst e2;cases r5;exact wpAny_truthy_bool ⟨H5,I5,q5⟩
theorem qj:(sizeLine:Nat) < 2 ^ 63:=by rw[sizeLine_eq];decide
theorem AI:OpR X (binaryOp .Add) (fun x y H Q=>∃ i j,x=.str i/\y=.str j/\i.length + j.length<=sizeLine/\Q (.str (i++j)) H):=by
 intro pins s σ H x y v u Q I rx ry h;obtain⟨i,j,rfl,rfl,hz,q⟩:=h;obtain⟨t,rfl⟩:=rx;obtain⟨t',rfl⟩:=ry;exact add_str (fun t' tk=>⟨.str (i++j),H,I.tok _,⟨_,rfl⟩,q⟩) hz
theorem vals1 {x:V} {us:Lv0} (r:Vals [x] us):∃ u,us=[u]/\RelV x u:=by
 cases r with
 | cons r1 r2=>cases r2;exact⟨_,rfl,r1⟩
theorem vals2 {x y:V} {us:Lv0} (r:Vals [x,y] us):∃ u w',us=[u,w']/\RelV x u/\RelV y w':=by
 cases r with
 | cons r1 r2=>
  cases r2 with
  | cons r3 r4=>cases r4;exact⟨_,_,rfl,r1,r3⟩
theorem DF (hc:X.calm=true):bV X (.builtin "max") (fun xs H Q=>∃ i j,xs=[.int i,.int j]/\Q (.int (if j > i then j else i)) H):=by
 intro pins s σ H xs us Q I r h;obtain⟨i,j,rfl,q⟩:=h;obtain⟨u,w',rfl,⟨t,rfl⟩,⟨t',rfl⟩⟩:=vals2 r;refine max_two_ints (I.ok.hd hc) fun h' tk k=>⟨_,H,I.kept k,?_,q⟩;by_cases hj:j > i
 ·rw[if_pos hj,if_pos hj];exact⟨_,rfl⟩
 ·rw[if_neg hj,if_neg hj];exact⟨_,rfl⟩
theorem DE (hc:X.calm=true):bV X (.builtin "min") (fun xs H Q=>∃ i j,xs=[.int i,.int j]/\Q (.int (if j < i then j else i)) H):=by
 intro pins s σ H xs us Q I r h;obtain⟨i,j,rfl,q⟩:=h;obtain⟨u,w',rfl,⟨t,rfl⟩,⟨t',rfl⟩⟩:=vals2 r;refine min_two_ints (I.ok.hd hc) fun h' tk k=>⟨_,H,I.kept k,?_,q⟩;by_cases hj:j < i
 ·rw[if_pos hj,if_pos hj];exact⟨_,rfl⟩
 ·rw[if_neg hj,if_neg hj];exact⟨_,rfl⟩
theorem DG:bV X (.type "int") (fun xs H Q=>(∃ i,xs=[.int i]/\Q (.int i) H)\/∃ k,xs=[.bl k]/\Q (.int (if k then 1 else 0)) H):=by
 intro pins s σ H xs us Q I r h;rcases h with ⟨i,rfl,q⟩ | ⟨k,rfl,q⟩
 ·obtain⟨u,rfl,t,rfl⟩:=vals1 r;exact call_int_int ⟨.int i,H,I,⟨_,rfl⟩,q⟩
 ·obtain⟨u,rfl,r1⟩:=vals1 r;cases r1;exact call_int_bool ⟨.int (if k then 1 else 0),H,I.tok _,⟨_,rfl⟩,q⟩
end
structure Bv (h:Heap) (x dx C:Addr) (mA:SV):Prop where
 obj:h.get? x=some (PySem.W.instObj C dx)
 ns:h.Ns1 dx mA
 ne:dx≠x
theorem Dn {h:Heap} {dx:Addr} {mA:SV} (n:h.Ns1 dx mA):∃ od,h.get? dx=some od/\∀ name,PySem.W.lookIn name od=some (mA name):=by
 obtain⟨o,es,ep,ho,hd,hk,_,hm⟩:=n;refine⟨o,ho,fun name=>?_⟩;have e:=hm name;unfold nsFind findBy at e;rw[<- Array.find?_toList] at e;unfold PySem.W.lookIn;rw[hd];dsimp only;split
 ·rename_i y q;rw[q] at e;exact congrArg some e
 ·rename_i q;rw[q] at e;have a:es.toList.any (·.refKey)=false:=by
   rw[List.any_eq_false];intro y hy;obtain⟨z,t,hkey⟩:=hk y (Array.mem_toList_iff.mp hy);simp [DictEntry.refKey,hkey]
  have a':¬ es.toList.any (·.refKey)=true:=by rw[a];exact Bool.false_ne_true
  rw[if_neg a'];exact congrArg some e
theorem Bv.look {h:Heap} {x dx C:Addr} {mA:SV} (I:Bv h x dx C mA):∃ od,PySem.W.InstAt h x (PySem.W.instObj C dx) C (some od)/\∀ name,PySem.W.lookIn name od=some (mA name):=
 let ⟨od,ho,hl⟩:=Dn I.ns
 ⟨od,⟨I.obj,rfl,rfl,ho⟩,hl⟩
section
variable {prog:Program} {w:World} {A:Around} {E:VS} {s:Shared} {K:Fg0} {x dx C f:Addr} {mA:SV} {name:Str} {v:Value}
theorem get_map {expr:Bool} {Q:VS} (X:K.In s.heap) (I:Bv s.heap x dx C mA) (hg:PySem.W.plainGet K C name=true) (hh:PySem.W.hasDictIn K C=true)
  (ha:PySem.W.findIn K (.ref C) name=some none) (hv:mA name=some v) (hv':PySem.W.handedIn v=true) (h:Q v { s with toks:=s.toks + 1 }) :
  wpAny (model prog w) A (getAttr (.ref x) name expr) Q E s:=by
 obtain⟨od,J,hl⟩:=I.look;exact PySem.W.get_value X J (PySem.W.plainGet_of hg).1 (PySem.W.findObj_own hh ha rfl (by rw[hl,hv])) hv' h
theorem FA {pl:Sem Bool} {Q:Value×Lv0->Shared->Prop} (X:K.In s.heap) (I:Bv s.heap x dx C mA) (hg:PySem.W.plainGet K C name=true)
  (hf:PySem.W.findIn K (.ref C) name=some (some (.ref f))) (ht:PySem.W.isFn K (.ref f)=true) (hv:mA name=none) (h:Q (.ref f,[.ref x]) s) :
  wpAny (model prog w) A (getMethod (.ref x) name pl) Q E s:=by
 obtain⟨od,J,hl⟩:=I.look;exact PySem.W.method_fn X J (PySem.W.plainGet_of hg).1 (PySem.W.plainGet_of hg).2 hf (beq_iff_eq.mp ht) (by show (PySem.W.lookIn name od).map (·.isSome)=some false;rw[hl,hv];rfl) h
theorem GZ {ns:Ls0} {Q:Unit->Shared->Prop} (X:K.In s.heap) (I:Bv s.heap x dx C mA)
  (hs:PySem.W.findIn K (.ref C) "__setattr__"=some (some (.builtin "object.__setattr__"))) (hp:PySem.W.plainOver K C=true) (ht:PySem.W.takerIn K C name=some none) (hh:PySem.W.hasDictIn K C=true)
  (hw:PySem.Within mA ns) (hsz:ns.length<=sizeLine)
  (h:∀ h',Bv h' x dx C (fun y=>if y=name then some v else mA y)->Heap.SameBut dx s.heap h'->Q () { s with heap:=h',toks:=s.toks + 2 }) :
  wpAny (model prog w) A (setAttr (.ref x) name v) Q E s:=by
 obtain⟨od,J,hl⟩:=I.look;refine PySem.W.set_plain X J hs (PySem.W.osa_open (s:={ s with toks:=s.toks + 1 }) (r:=none) X J hp ht fun b=>?_);obtain⟨cd,hc,hd'⟩:=PySem.W.any_some hh;have hx:s.heap.get? x=some ⟨.ref C,some dx,.plain,#[]⟩:=I.obj;refine wpAny_bind (wpAny_pure (wpAny_bind (wpAny_bind (wpAny_loadPart hx (wpAny_bind (PySem.W.Looks.here (s:={ s with toks:=s.toks + 1 }) (PySem.W.looks_clsIn X hc) ?_))))));rw[hd'];refine wpAny_pure (a:=some dx) (wpAny_bind (wpAny_pure (wpAny_bind ?_)));refine wpAny_nsSet1 (s:={ s with toks:=s.toks + 1 }) I.ns fun h' hn2 hs2=>?_;obtain⟨oD,esD,epD,hoD,hdD,hcD⟩:=hn2.count (PySem.Within.cons name v hw);refine wpAny_bind (wpAny_lookBehind hoD (by rw[hdD];exact pastItsLine_dict (Nat.le_trans hcD (by rw[List.length_cons];omega))) ?_);exact wpAny_pure (h _ ⟨(hs2.2 _ (Ne.symm I.ne)).trans I.obj,hn2,I.ne⟩ hs2)
theorem Fc {R:Result->Shared->Prop} {vs:Lv0} {kw:List (Str×Value)} (X:K.In s.heap) (hm:PySem.W.makesIn K C=true)
  (hi:PySem.W.findIn K (.ref C) "__init__"=some (some (.ref f))) (hf:PySem.W.typeIn K (.ref f)=some (.type "function"))
  (h:codeAny (model prog w) (A.under (.builtin "type.__call__" ⟨.ref C::vs,kw⟩)) (.call (.ref f) ⟨.ref (s.heap.objs.size + 1)::vs,kw⟩) (PySem.W.InitBack (s.heap.objs.size + 1) R)
   { s with heap:=(s.heap.push PySem.W.emptyDict).push (PySem.W.instObj C s.heap.objs.size) }) :
  codeAny (model prog w) A (.call (.ref C) ⟨vs,kw⟩) R s:=by
 obtain⟨hh,g,d,t,os⟩:=s;exact PySem.W.make_core (PySem.W.makes_of X hm) (PySem.W.looks_findIn X hi) (fun self=>PySem.W.bind_fn X self hf) (.inl rfl) h
theorem Dj {R:Result->Shared->Prop} (X:K.In s.heap) (hm:PySem.W.makesIn K C=true)
  (hi:PySem.W.findIn K (.ref C) "__init__"=some (some (.builtin "object.__init__")))
  (hb:∀ self,PySem.W.Looks (model prog w) s.heap (bindSpecial (.builtin "object.__init__") self) (.builtin "object.__init__",[self]))
  (h:codeAny (model prog w) (A.under (.builtin "type.__call__" ⟨[.ref C],[]⟩)) (.call (.builtin "object.__init__") ⟨[.ref (s.heap.objs.size + 1)],[]⟩) (PySem.W.InitBack (s.heap.objs.size + 1) R)
   { s with heap:=(s.heap.push PySem.W.emptyDict).push (PySem.W.instObj C s.heap.objs.size) }) :
  codeAny (model prog w) A (.call (.ref C) ⟨[],[]⟩) R s:=by
 obtain⟨hh,g,d,t,os⟩:=s;exact PySem.W.make_core (PySem.W.makes_of X hm) (PySem.W.looks_findIn X hi) hb (.inr ⟨rfl,rfl⟩) h
end
noncomputable def kM (f:Str) (v:V):List (Str×V)->List (Str×V)
 | []=>[(f,v)]
 | (g,x)::r=>if g=f then (g,v)::r else (g,x)::kM f v r
theorem qH (f g:Str) (v:V):∀ fs:List (Str×V),(kM f v fs).lookup g=if g=f then some v else fs.lookup g
 | []=>by
  show List.lookup g [(f,v)]=_;by_cases h:g=f
  ·have hb:(g == f)=true:=beq_iff_eq.mpr h;simp only[List.lookup,hb,if_pos h]
  ·have hb:(g == f)=false:=beq_eq_false_iff_ne.mpr h;simp only[List.lookup,hb,if_neg h]
 | (k,x)::r=>by
  have ih:=qH f g v r;rw[show kM f v ((k,x)::r)=(if k=f then (k,v)::r else (k,x)::kM f v r) from rfl];by_cases hk:k=f
  ·rw[if_pos hk];by_cases h:g=k
   ·have hb:(g == k)=true:=beq_iff_eq.mpr h;simp only[List.lookup,hb,if_pos (h.trans hk)]
   ·have hb:(g == k)=false:=beq_eq_false_iff_ne.mpr h;simp only[List.lookup,hb,if_neg (fun e:g=f=>h (e.trans hk.symm))]
  ·rw[if_neg hk];by_cases h:g=k
   ·have hb:(g == k)=true:=beq_iff_eq.mpr h;simp only[List.lookup,hb,if_neg (fun e:g=f=>hk (h.symm.trans e))]
   ·have hb:(g == k)=false:=beq_eq_false_iff_ne.mpr h;simp only[List.lookup,hb];exact ih
theorem qm (f:Str) (v:V):∀ fs:List (Str×V),f∈(kM f v fs).map (·.1)/\∀ g,g∈fs.map (·.1)->g∈(kM f v fs).map (·.1)
 | []=>⟨by simp [kM],fun g h=>by simp at h⟩
 | (k,x)::r=>by
  obtain⟨i1,i2⟩:=qm f v r;rw[show kM f v ((k,x)::r)=(if k=f then (k,v)::r else (k,x)::kM f v r) from rfl];by_cases hk:k=f
  ·rw[if_pos hk];subst hk;exact⟨by simp,fun g h=>by simpa using h⟩
  ·rw[if_neg hk];refine⟨?_,fun g h=>?_⟩
   ·rw[List.map_cons];exact List.mem_cons_of_mem _ i1
   ·rw[List.map_cons] at h ⊢;rcases List.mem_cons.mp h with e | e
    ·exact List.mem_cons.mpr (.inl e)
    ·exact List.mem_cons_of_mem _ (i2 g e)
theorem qI (f:Str) (v:V):∀ fs:List (Str×V),(kM f v fs).length<=fs.length + 1
 | []=>by simp [kM]
 | (k,x)::r=>by
  have ih:=qI f v r;rw[show kM f v ((k,x)::r)=(if k=f then (k,v)::r else (k,x)::kM f v r) from rfl];by_cases hk:k=f
  ·rw[if_pos hk,List.length_cons,List.length_cons];omega
  ·rw[if_neg hk,List.length_cons,List.length_cons];omega
theorem uY.some_of {v:V} {o:Option Value} (r:uY (some v) o):∃ u,o=some u/\RelV v u:=by
 cases o with
 | none=>exact(show False from r).elim
 | some u=>exact⟨u,rfl,r⟩
theorem uY.none_of {o:Option Value} (r:uY none o):o=none:=by
 cases o with
 | none=>rfl
 | some u=>exact(show False from r).elim
theorem Dx {v:V} {u:Value} (r:RelV v u):PySem.W.handedIn u=true:=by
 cases v with
 | non=>cases (show u=Value.none from r);rfl
 | bl b=>cases (show u=Value.bool b from r);rfl
 | int i=>obtain⟨t,e⟩:=(show ∃ t,u=Value.int i t from r);cases e;rfl
 | str x=>obtain⟨t,e⟩:=(show ∃ t,u=Value.str x t from r);cases e;rfl
 | byt b=>obtain⟨t,e⟩:=(show ∃ t,u=Value.bytes b t from r);cases e;rfl
 | flt b=>obtain⟨t,e⟩:=(show ∃ t,u=Value.float b t from r);cases e;rfl
 | ref a=>cases (show u=Value.ref a from r);rfl
 | ty n=>cases (show u=Value.type n from r);rfl
section
variable {P:Program} {w:World} {H H':Hp} {h h':Heap} {a C dx:Addr} {fs fs':List (Str×V)}
theorem sG (hok:HOk P w H h) (e:H a=some (.ins C dx fs)):∃ mA,Bv h a dx C mA/\(∀ f,uY (fs.lookup f) (mA f))/\PySem.Within mA (fs.map (·.1))/\fs.length<=1000/\H dx=some (.own a):=by
 obtain⟨d,z,ne,ob,mA,n,r,q⟩:=(show cV P w H h a (.ins C dx fs) from hok a _ e);exact⟨mA,⟨ob,n,ne⟩,r,q,z,d⟩
end
structure Cls (K:Fg0) (C:Addr):Prop where
 pg:PySem.W.plainGet K C Str.empty=true
 hd:PySem.W.hasDictIn K C=true
 po:PySem.W.plainOver K C=true
 sa:PySem.W.findIn K (.ref C) "__setattr__"=some (some (.builtin "object.__setattr__"))
theorem Cls.get {K:Fg0} {C:Addr} (c:Cls K C) (f:Str):PySem.W.plainGet K C f=true:=c.pg
def ez (K:Fg0) (C:Addr) (f:Str):Prop:=PySem.W.findIn K (.ref C) f=some none
theorem ez.LF {K:Fg0} {C:Addr} {f:Str} (n:ez K C f):PySem.W.takerIn K C f=some none:=by
 unfold PySem.W.takerIn;rw[show PySem.W.findIn K (.ref C) f=some none from n]
 rfl
structure Meth (K:Fg0) (C:Addr) (m:Str) (f:Addr):Prop where
 at_:PySem.W.findIn K (.ref C) m=some (some (.ref f))
 fn:PySem.W.isFn K (.ref f)=true
 kp:PySem.W.keepIn K (.ref f)=true
section
variable {X:Cx} {pins:Pn} {σ:St} {H:Hp} {s:Shared} {a C dx:Addr} {fs:List (Str×V)} {f:Str} {v:V} {A:Around} {E:VS}
theorem A9 {b:Bool} {Q:VS} (I:Inv X pins σ H s) (e:H a=some (.ins C dx fs)) (c:Cls X.K C) (n:ez X.K C f) (l:fs.lookup f=some v)
  (h:∀ u s',Inv X pins σ H s'->RelV v u->Q u s'):wpAny (model X.prog X.w) A (getAttr (.ref a) f b) Q E s:=by
 obtain⟨mA,O,r,_,_,_⟩:=sG I.hok e;obtain⟨u,hu,ru⟩:=uY.some_of (v:=v) (o:=mA f) (by rw[<- l];exact r f);exact get_map I.kIn O (c.get f) c.hd n hu (Dx ru) (h u _ (I.tok _) ru)
theorem nH {m:Str} {g:Addr} {pl:Sem Bool} {Q:Value×Lv0->Shared->Prop} (I:Inv X pins σ H s) (e:H a=some (.ins C dx fs)) (c:Cls X.K C) (k:Meth X.K C m g) (l:fs.lookup m=none)
  (h:Q (.ref g,[.ref a]) s):wpAny (model X.prog X.w) A (getMethod (.ref a) m pl) Q E s:=by
 obtain⟨mA,O,r,_,_,_⟩:=sG I.hok e;have hn:mA m=none:=uY.none_of (by rw[<- l];exact r m);exact FA I.kIn O (c.get m) k.at_ k.fn hn h
theorem Ap {y:V} {u:Value} {Q:Unit->Shared->Prop} (I:Inv X pins σ H s) (e:H a=some (.ins C dx fs)) (c:Cls X.K C) (n:ez X.K C f) (hl:fs.length < 1000) (ry:RelV y u)
  (h:∀ s',Inv X pins σ (upd H a (.ins C dx (kM f y fs))) s'->Q () s'):wpAny (model X.prog X.w) A (setAttr (.ref a) f u) Q E s:=by
 obtain⟨mA,O,r,wi,_,ho⟩:=sG I.hok e;have hz:(fs.map (·.1)).length<=sizeLine:=by rw[lM0,sizeLine_eq];omega
 refine GZ I.kIn O c.sa c.po n.LF c.hd wi hz fun h' O' sb=>h _ ?_;have hd:∃ o,h'.get? dx=some o:=let ⟨o,_,_,e',_⟩:=O'.ns;⟨o,e'⟩
 refine I.write (x:=a) (e:=dx) (by rw[e];exact True.intro) (.inr ho) (fun b q hb z=>(sb.2 b hb).trans z) hd ?_;refine⟨by rw[ah O.ne];exact ho,?_,O.ne,O'.obj,_,O'.ns,fun g=>?_,fun g hg=>?_⟩
 ·have:=qI f y fs;omega
 ·show uY ((kM f y fs).lookup g) (if g=f then some u else mA g);rw[qH];by_cases q:g=f
  ·rw[if_pos q,if_pos q];exact ry
  ·rw[if_neg q,if_neg q];exact r g
 ·by_cases q:g=f
  ·rw[q];exact(qm f y fs).1
  ·refine(qm f y fs).2 g (wi g fun z=>hg ?_);show (if g=f then some u else mA g)=none;rw[if_neg q];exact z
theorem Inv.made (I:Inv X pins σ H s):Inv X pins σ (upd (upd H s.heap.objs.size (.own (s.heap.objs.size + 1))) (s.heap.objs.size + 1) (.ins C s.heap.objs.size []))
  { s with heap:=(s.heap.push PySem.W.emptyDict).push (PySem.W.instObj C s.heap.objs.size) }:=by
 have e1:(s.heap.push PySem.W.emptyDict).get? s.heap.objs.size=some PySem.W.emptyDict:=Heap.get?_push_size s.heap rfl;have e2:((s.heap.push PySem.W.emptyDict).push (PySem.W.instObj C s.heap.objs.size)).get? (s.heap.objs.size + 1)=some (PySem.W.instObj C s.heap.objs.size):=by
  have:=Heap.get?_push_size (s.heap.push PySem.W.emptyDict) (o:=PySem.W.instObj C s.heap.objs.size) rfl
  rwa [Heap.size_push] at this
 have e3:(s.heap.push PySem.W.emptyDict).Ns s.heap.objs.size (fun _=>none):=⟨PySem.W.emptyDict,#[],_,e1,rfl,(fun e he=>absurd he (by simp)),fun _=>rfl⟩;have I1:=I.laid (a:=s.heap.objs.size) (o:=.own (s.heap.objs.size + 1)) (h':=s.heap.push PySem.W.emptyDict) (t':=s.toks) (fun b u q=>Heap.get?_push_of_some _ q) (Nat.le_refl _) ⟨_,e1⟩;refine I1.laid (a:=s.heap.objs.size + 1) (o:=.ins C s.heap.objs.size []) (t':=s.toks) (fun b u q=>Heap.get?_push_of_some _ q) (Nat.le_of_eq (Heap.size_push _ _)) ?_;have ne:s.heap.objs.size≠s.heap.objs.size + 1:=Nat.ne_of_lt (Nat.lt_succ_self _);refine⟨by rw[ah ne,ar],Nat.zero_le _,ne,e2,fun _=>none,(Heap.Ns1.of_empty e3).at fun o q=>Heap.get?_push_of_some _ q,fun _=>True.intro,fun y hy=>absurd rfl hy⟩
theorem Iu {prog:Program} {w:World} {env:Env} {e:Expr} {f:Str} {pos:Pos} {s:Shared} {Q:VS} (hb:attributeBase e f env (eval e env)=eval e env)
  (h:wpAny (model prog w) A (eval e env) (fun o s₁=>wpAny (model prog w) A (getAttr o f true) Q E s₁) E s):wpAny (model prog w) A (eval (.Attribute e f pos) env) Q E s:=
 Attribute_any_ h (by rw[arm_eval_Attribute,hb])
end
def LK (K:Fg0) (ta:TE) (f:Str):TE:=fun σ H Q=>ta σ H fun x H1=>∃ a C dx fs v,x=.ref a/\H1 a=some (.ins C dx fs)/\Cls K C/\ez K C f/\fs.lookup f=some v/\Q v H1
def Kb (K:Fg0) (ta tv:TE) (f:Str):TS:=fun D σ H=>tv σ H fun y H1=>ta σ H1 fun x H2=>∃ a C dx fs,x=.ref a/\H2 a=some (.ins C dx fs)/\Cls K C/\ez K C f/\fs.length < 1000/\
 D.nx σ (upd H2 a (.ins C dx (kM f y fs)))
section
variable {X:Cx} {o e value:Expr} {f:Str} {pos pos' tpos:Pos} {ta tv:TE}
theorem Kz (he:PE X e ta) (hb:attributeBase e f X.env (eval e X.env)=eval e X.env):PE X (.Attribute e f pos) (LK X.K ta f):=by
 intro pins s σ H Q I h;refine Iu hb (thn (he pins s σ H _ I h) fun u s1 Z=>?_);obtain⟨x,H1,I1,rx,a,C,dx,fs,v,ex,ea,c,n,l,q⟩:=Z;subst ex;obtain rfl:u=Value.ref a:=rx;exact A9 I1 ea c n l fun u' s2 I2 ru=>⟨v,H1,I2,ru,q⟩
theorem Kp (ha:PE X o ta) (hv:PE X value tv) (hs:swapsWith value (some (.Attribute o f pos')) pos.line X.env=pure false):PS X (.Assign [.Attribute o f pos'] value pos) (Kb X.K ta tv f):=by
 intro pins s σ H D I h;refine plainObj_wpAny_Assign_Attribute (thn (hv pins s σ H _ I h) fun u s1 ⟨y,H1,I1,ry,q⟩=>thn (ha pins s1 σ H1 _ I1 q) fun ov s2 Z=>?_) hs;obtain⟨x,H2,I2,rx,a,C,dx,fs,ex,ea,c,n,l,q2⟩:=Z;subst ex;obtain rfl:ov=Value.ref a:=rx;exact Ap I2 ea c n l ry fun s3 I3=>⟨σ,_,I3,q2⟩
theorem Je {pl:Sem Bool} {m:Str} {apos:Pos} {args:List Expr} {pins:Pn} {s:Shared} {σ:St} {H:Hp} {Q:VS} {te:TE} (he:PE X e te) (I:Inv X pins σ H s)
  (h:te σ H fun x H1=>∃ a C dx fs g,x=.ref a/\H1 a=some (.ins C dx fs)/\Cls X.K C/\Meth X.K C m g/\fs.lookup m=none/\
   ∀ s1,Inv X pins σ H1 s1->wpAny (model X.prog X.w) X.A (callWith pos (.ref g) [.ref a] (backTo pos (starEach args X.env)) (backToKw pos (keywordEach [] X.env))) Q X.xe s1)
  (ht:eval (.Call (.Attribute e m apos) args [] pos) X.env=(do
   let ov <- eval e X.env
   standAt apos.atName
   let (f,first) <- holding [ov] (getMethod ov m pl)
   callWith pos f first (backTo pos (starEach args X.env)) (backToKw pos (keywordEach [] X.env)))) :
  wpAny (model X.prog X.w) X.A (eval (.Call (.Attribute e m apos) args [] pos) X.env) Q X.xe s:=by
 refine PySem.W.methodCall_KW (pl:=pl) (thn (he pins s σ H _ I h) fun u s1 Z=>?_) ht;obtain⟨x,H1,I1,rx,a,C,dx,fs,g,ex,ea,c,k,l,q⟩:=Z;subst ex;obtain rfl:u=Value.ref a:=rx;exact nH I1 ea c k l (q s1 I1)
end
section
variable {X:Cx} {pins:Pn} {σ:St} {H:Hp} {s:Shared} {A:Around} {E:VS} {Q:VS} {c:Value} {b:Bool}
inductive mD (K:Fg0) (H:Hp):V->Value->Prop where
 | non:mD K H .non (.type "NoneType")
 | bl (x:Bool):mD K H (.bl x) (.type "bool")
 | int (i:Int):mD K H (.int i) (.type "int")
 | str (x:Str):mD K H (.str x) (.type "str")
 | flt (x:UInt64):mD K H (.flt x) (.type "float")
 | lst {a:Addr} {xs:List V} (e:H a=some (.lst xs)):mD K H (.ref a) (.type "list")
 | frz {a:Addr} {o:Obj} {xs:List V} (e:H a=some (.frz o (.lst xs))):mD K H (.ref a) (.type "list")
 | tup {a:Addr} {xs:List V} (e:H a=some (.tup xs)):mD K H (.ref a) (.type "tuple")
 | dK {a:Addr} {kvs:List (Key×V)} (e:H a=some (.dK kvs)):mD K H (.ref a) (.type "dict")
 | dT {a:Addr} {kvs:List (List Key×V)} (e:H a=some (.dT kvs)):mD K H (.ref a) (.type "dict")
 | ins {a C dx:Addr} {fs:List (Str×V)} (e:H a=some (.ins C dx fs)) (cl:Cls K C) (ha:PySem.W.findIn K (.ref C) "__class__"=some (some (.builtin "object.__class__")))
   (hn:PySem.W.specialIn K (.builtin "object.__class__") "__get__"=some (some (.builtin "getset_descriptor.__get__"))) (htk:PySem.W.takesIn K (.builtin "object.__class__")=some true)
   (hm:PySem.W.mroIn K C (.type "object")=some true):mD K H (.ref a) (.ref C)
theorem v3 {x:V} {u t:Value} (I:Inv X pins σ H s) (rx:RelV x u) (ty:mD X.K H x t) (e:PySem.W.kitOne X.K t c=some b) (h:∀ tk,Q (.bool b) { s with toks:=tk }) :
  wpAny (model X.prog X.w) A (call (.builtin "isinstance") [u,c]) Q E s:=by
 cases ty with
 | non=>cases (show u=Value.none from rx);exact PySem.W.kia_one PySem.W.kitx_none I.kIn True.intro e (fun z=>nomatch z) h
 | bl y=>cases (show u=Value.bool y from rx);exact PySem.W.kia_one PySem.W.kitx_bool I.kIn True.intro e (fun z=>nomatch z) h
 | int i=>obtain⟨t,q⟩:=(show ∃ t,u=Value.int i t from rx);cases q;exact PySem.W.kia_one PySem.W.kitx_int I.kIn True.intro e (fun z=>nomatch z) h
 | str y=>obtain⟨t,q⟩:=(show ∃ t,u=Value.str y t from rx);cases q;exact PySem.W.kia_one PySem.W.kitx_str I.kIn True.intro e (fun z=>nomatch z) h
 | flt y=>obtain⟨t,q⟩:=(show ∃ t,u=Value.float y t from rx);cases q;exact PySem.W.kia_one PySem.W.kitx_float I.kIn True.intro e (fun z=>nomatch z) h
 | @lst a xs ea=>
  cases (show u=Value.ref a from rx);obtain⟨_,_,n,_,h1⟩:=(show cV X.prog X.w H s.heap a (.lst xs) from I.hok a _ ea);exact PySem.W.kia_one PySem.W.kitx_list I.kIn ⟨_,h1,rfl⟩ e (fun z=>nomatch z) h
 | @frz a ob xs ea=>
  cases (show u=Value.ref a from rx);obtain⟨_,_,_,n,_,h1⟩:=(show cV X.prog X.w H s.heap a (.frz ob (.lst xs)) from I.hok a _ ea);exact PySem.W.kia_one PySem.W.kitx_list I.kIn ⟨_,h1,rfl⟩ e (fun z=>nomatch z) h
 | @tup a xs ea=>
  cases (show u=Value.ref a from rx);obtain⟨_,_,_,p⟩:=(show cV X.prog X.w H s.heap a (.tup xs) from I.hok a _ ea);obtain⟨o,h1,h2,_⟩:=p;exact PySem.W.kia_one PySem.W.kitx_tuple I.kIn ⟨o,h1,h2⟩ e (fun z=>nomatch z) h
 | @dK a kvs ea=>
  cases (show u=Value.ref a from rx);obtain⟨_,_,vs,_,p⟩:=(show cV X.prog X.w H s.heap a (.dK kvs) from I.hok a _ ea);obtain⟨o,es,ep,h1,h2,_⟩:=p;exact PySem.W.kia_one PySem.W.kitx_dict I.kIn ⟨o,h1,h2.1⟩ e (fun z=>nomatch z) h
 | @dT a kvs ea=>
  cases (show u=Value.ref a from rx);obtain⟨_,_,xs,_,o,es,ep,h1,h2,_⟩:=(show cV X.prog X.w H s.heap a (.dT kvs) from I.hok a _ ea);exact PySem.W.kia_one PySem.W.kitx_dict I.kIn ⟨o,h1,h2.1⟩ e (fun z=>nomatch z) h
 | @ins a C dx fs ea cl ha hn htk hm=>
  cases (show u=Value.ref a from rx);obtain⟨mA,O,_⟩:=sG I.hok ea;obtain⟨od,J,_⟩:=O.look;exact PySem.W.kia_one (PySem.W.kitx_own (cl.get _) cl.hd ha hn htk hm) I.kIn J e (fun z=>nomatch z) h
end
structure bN (k:Nat) (A:Around):Prop where
 hd:A.handled=none
 dp:A.depth + 3 * k + 5 < recursionLimit
 un:A.units + 16 * k + 200 < cLine
 gd:A.guards=some []
theorem bN.mono {j k:Nat} {A:Around} (r:bN k A) (h:j<=k):bN j A:=⟨r.hd,by have:=r.dp;omega,by have:=r.un;omega,r.gd⟩
theorem bN.deeper {k:Nat} {A:Around} (r:bN (k + 1) A) (env:Env):bN k (A.deeper env):=
 ⟨r.hd,by have:=r.dp;show A.depth + 1 + 3 * k + 5 < _;omega,by have:=r.un;show A.units + 3 + 16 * k + 200 < _;omega,r.gd⟩
theorem AW {A:Around} {C:Addr} {us:Lv0} {kw:List (Str×Value)}:(A.under (.builtin "type.__call__" ⟨.ref C::us,kw⟩)).depth=A.depth + 1:=by
 first | rfl | simp [Around.under,Code.weight,Code.isCreation,Code.isGuard,Code.isCaller,Code.frames,Code.isFrame,guardIds]
theorem AV {A:Around} {C:Addr} {us:Lv0} {kw:List (Str×Value)}:(A.under (.builtin "type.__call__" ⟨.ref C::us,kw⟩)).units=A.units + 1:=by
 first | rfl | simp [Around.under,Code.cUnits,Code.frames,Code.isFrame]
theorem zk {A:Around} {C:Addr} {us:Lv0} {kw:List (Str×Value)}:(A.under (.builtin "type.__call__" ⟨.ref C::us,kw⟩)).guards=A.guards:=by
 first | rfl | simp [Around.under,pushGuards,Code.guards,Code.isGuard,guardIds] | (cases A;simp [Around.under,pushGuards,Code.guards,Code.isGuard,guardIds])
theorem bN.make {k:Nat} {A:Around} (r:bN (k + 1) A) (C:Addr) (us:Lv0) (kw:List (Str×Value)):bN k (A.under (.builtin "type.__call__" ⟨.ref C::us,kw⟩)):=
 ⟨r.hd,by have:=r.dp;rw[AW];omega,by have:=r.un;rw[AV];omega,by have:=r.gd;rw[zk];exact this⟩
theorem bN.depth {k:Nat} {A:Around} (r:bN k A):A.depth < recursionLimit:=by have:=r.dp;omega
theorem bN.units {k:Nat} {A:Around} (r:bN k A):A.units + 64 < cLine:=by have:=r.un;omega
def rz:TA:=fun _ H Q=>Q [] H
def kq (ta:TE) (tr:TA):TA:=fun σ H Q=>ta σ H fun x H1=>tr σ H1 fun xs H2=>Q (x::xs) H2
section
variable {X:Cx} {e:Expr} {es:List Expr} {te:TE} {t:TA} {pos:Pos}
theorem qe:PA X [] rz:=fun _ _ _ _ H Q I h=>Calls.spliced_nil ⟨[],H,I,.nil,h⟩
theorem gf (ha:PE X e te) (hr:PA X es t) (hs:autoParam (starEach (e::es) X.env=(false,eval e X.env)::starEach es X.env) r0):PA X (e::es) (kq te t):=by
 intro pos pins s σ H Q I h;rw[hs];show wpAny _ _ (spliced ((false,eval e X.env)::backTo pos (starEach es X.env))) _ _ s;refine Calls.spliced_cons (thn (ha pins s σ H _ I h) fun u s1 Z=>?_);obtain⟨x,H1,I1,r1,q1⟩:=Z;exact thn (hr pos pins s1 σ H1 _ I1 q1) fun us s2 ⟨xs,H2,I2,r2,q2⟩=>⟨x::xs,H2,I2,.cons r1 r2,q2⟩
def GQ (t:TA):TE:=fun σ H Q=>t σ H fun xs H1=>xs.length<=sizeLine/\∀ p,H1 p=none->Q (.ref p) (upd H1 p (.tup xs))
def LJ (t:TA):TE:=fun σ H Q=>t σ H fun xs H1=>xs.length<=sizeLine/\∀ p,H1 p=none->Q (.ref p) (upd H1 p (.lst xs))
theorem Az {x1} (h:PA X es t):PE X (.Tuple es x1 pos) (GQ t):=by
 intro pins s σ H Q I hq;refine wpAny_Tuple_spliced (thn (h pos pins s σ H _ I hq) fun us s1 ⟨xs,H1,I1,r,z,q⟩=>⟨by rw[<- r.length];exact z,?_⟩);have hf:H1 s1.heap.objs.size=none:=I1.hok.fresh (Nat.le_refl _);refine⟨.ref s1.heap.objs.size,upd H1 s1.heap.objs.size (.tup xs),I1.laid (t':=s1.toks) (fun b u e=>Heap.get?_push_of_some _ e) (Nat.le_refl _) ?_,rfl,q _ hf⟩;exact⟨z,us,r,⟨_,Heap.get?_push_size _ rfl,rfl,_,rfl⟩⟩
theorem Kx (h:PA X es t):PE X (.List es pos) (LJ t):=by
 intro pins s σ H Q I hq;refine wpAny_List_spliced (thn (h pos pins s σ H _ I hq) fun us s1 ⟨xs,H1,I1,r,z,q⟩=>⟨by rw[<- r.length];exact z,?_⟩);have hf:H1 s1.heap.objs.size=none:=I1.hok.fresh (Nat.le_refl _);refine⟨.ref s1.heap.objs.size,upd H1 s1.heap.objs.size (.lst xs),I1.laid (t':=s1.toks) (fun b u e=>Heap.get?_push_of_some _ e) (Nat.le_refl _) ?_,rfl,q _ hf⟩;exact⟨z,us,0,r,Heap.get?_push_size _ rfl⟩
end
abbrev Sp:=List V->Hp->VK->XK->Prop
abbrev CXT:=List Env->Hp->Shared->XK->Value->Shared->Prop
structure Ac (P:Program) (w:World) (K:Fg0) (mg:SV) (base:Heap) (A:Around) (outer:List Env) (s:Shared) (H:Hp):Prop where
 frames:A.frames=some outer
 mod:Mod K mg base
 bs:∀ b o,base.get? b=some o->s.heap.get? b=some o/\Kpt H b o
 bsz:base.objs.size<=s.heap.objs.size
 nI:s.heap.FunFrames base outer
 frf:∀ b∈frs outer,H b=none
 hok:HOk P w H s.heap
 bare:AllBare s.gens
 tb:TabsAt base H
def CE (outer:List Env) (P:Program) (w:World) (H:Hp) (s:Shared) (Q:VK) (u:Value) (s':Shared):Prop:=
 ∃ v H',s'.os=s.os/\AllBare s'.gens/\Un (frs outer) [] H H' s.heap s'.heap/\HOk P w H' s'.heap/\RelV v u/\Q v H'
def CR (CX:CXT) (outer:List Env) (P:Program) (w:World) (H:Hp) (s:Shared) (Q:VK) (E:XK) (r:Result) (s':Shared):Prop:=
 match r with
 | .ok (.ret u)=>CE outer P w H s Q u s'
 | .ok _=>False
 | .error e=>CX outer H s E e s'
structure aG (P:Program) (w:World) (K:Fg0) (mg:SV) (base:Heap) (CX:CXT) (k:Nat) (f:Addr) (fd:FuncData) (ps:Ls0) (sp:Sp):Prop where
 len:∀ vs H Q E,sp vs H Q E->vs.length=ps.length
 run:∀ (A:Around) (outer:List Env) (s:Shared) (H:Hp) (args:Args) (us:Lv0) (vs:List V) (Q:VK) (E:XK),bN k A->Ac P w K mg base A outer s H->BindsTo s fd args (ps.zip us)->Vals vs us->sp vs H Q E->
  codeAny (model P w) A (.call (.ref f) args) (CR CX outer P w H s Q E) s
theorem aG.imp {P:Program} {w:World} {K:Fg0} {mg:SV} {base:Heap} {CX:CXT} {k:Nat} {f:Addr} {fd:FuncData} {ps:Ls0} {sp sp':Sp} (F:aG P w K mg base CX k f fd ps sp)
  (h:∀ vs H Q E,sp' vs H Q E->sp vs H Q E):aG P w K mg base CX k f fd ps sp':=
 ⟨fun vs H Q E q=>F.len vs H Q E (h _ _ _ _ q),fun A outer s H args us vs Q E hr he hb hv hs=>F.run A outer s H args us vs Q E hr he hb hv (h _ _ _ _ hs)⟩
theorem Ac.make {P:Program} {w:World} {K:Fg0} {mg:SV} {base:Heap} {A:Around} {outer:List Env} {s:Shared} {H:Hp} (e:Ac P w K mg base A outer s H) (C:Addr) (us:Lv0) (kw:List (Str×Value)) :
  Ac P w K mg base (A.under (.builtin "type.__call__" ⟨.ref C::us,kw⟩)) outer s H:=⟨by first | exact e.frames | (simpa [Around.under,Code.envs,Code.isFrame,pushEnvs] using e.frames),e.mod,e.bs,e.bsz,e.nI,e.frf,e.hok,e.bare,e.tb⟩
section
variable {X:Cx} {pins:Pn} {σ:St} {H:Hp} {s s':Shared}
theorem Inv.M4 (I:Inv X pins σ H s):Ac X.prog X.w X.K X.mg X.base X.A X.stack s H:=
 ⟨I.ok.frames,I.ok.mod,I.bs,Nat.le_trans I.ok.bsz I.sz,I.stack,I.r9,I.hok,I.bare,I.tb⟩
theorem Inv.after {Q:VK} {u:Value} (I:Inv X pins σ H s) (h:CE X.stack X.prog X.w H s Q u s'):EP X pins σ Q u s':=by
 obtain⟨v,H',os,bare,un,hok,r,q⟩:=h;obtain⟨hh,g,d,t,os'⟩:=s';obtain rfl:os'=s.os:=os;exact⟨v,H',I.call (h':=hh) (g':=g) (d':=d) (t':=t) (ch:=[]) un hok bare (fun b z=>absurd z (by simp)),r,q⟩
end
def kr (sp:Sp) (dvs:List V) (E:XK) (t:TA):TE:=fun σ H Q=>t σ H fun vs H1=>sp (vs++dvs) H1 Q E
def yL (C:Addr) (m:Str) (sp:Sp) (dvs:List V) (E:XK) (ta:TE) (t:TA):TE:=fun σ H Q=>ta σ H fun x H1=>∃ a dx fs,x=.ref a/\H1 a=some (.ins C dx fs)/\fs.lookup m=none/\
 t σ H1 fun vs H2=>sp (x::(vs++dvs)) H2 Q E
def DX (C:Addr) (sp:Sp) (dvs:List V) (E:XK) (t:TA):TE:=fun σ H Q=>t σ H fun vs H1=>∀ x dx,H1 x=none->H1 dx=none->dx≠x->
 sp (.ref x::(vs++dvs)) (upd (upd H1 dx (.own x)) x (.ins C dx [])) (fun v H2=>v=.non/\Q (.ref x) H2) E
def Binds (K:Fg0) (fd:FuncData) (ps:Ls0) (ds:Lv0):Prop:=
 ∀ (s:Shared) (us:Lv0),K.In s.heap->(us++ds).length=ps.length->BindsTo s fd ⟨us,[]⟩ (ps.zip (us++ds))
theorem Binds.all {K:Fg0} {fd:FuncData} {ps:Ls0} (h:∀ us:Lv0,us.length=ps.length->bindArgs fd ⟨us,[]⟩=pure (ps.zip us)):Binds K fd ps []:=fun s us _ hl=>by
 rw[List.append_nil] at hl ⊢;exact .of_eq (h us hl)
def Passes (CX:CXT) (X:Cx) (E:XK):Prop:=∀ (pins:Pn) (σ:St) (H:Hp) (s:Shared) (e:Value) (s':Shared),Inv X pins σ H s->CX X.stack H s E e s'->X.xe e s'
section
variable {X:Cx} {CX:CXT} {k:Nat} {f C:Addr} {fd:FuncData} {ps:Ls0} {sp:Sp} {dvs:List V} {ds:Lv0} {E:XK} {x m:Str} {p pos apos:Pos} {e o:Expr} {es:List Expr} {ta:TE} {t:TA}
theorem tU {pins:Pn} {σ:St} {H:Hp} {s:Shared} {Q:VK} {us:Lv0} {vs:List V} (F:aG X.prog X.w X.K X.mg X.base CX k f fd ps sp) (hr:bN k X.A) (hb:Binds X.K fd ps ds) (hd:Vals dvs ds) (hx:Passes CX X E)
  (I:Inv X pins σ H s) (r:Vals vs us) (h:sp (vs++dvs) H Q E):wpAny (model X.prog X.w) X.A (call (.ref f) us) (EP X pins σ Q) X.xe s:=by
 have r2:Vals (vs++dvs) (us++ds):=r.append hd;have hl:(us++ds).length=ps.length:=by rw[<- r2.length];exact F.len _ _ _ _ h
 refine wpAny_call (codeAny_mono (F.run X.A X.stack s H ⟨us,[]⟩ (us++ds) (vs++dvs) Q E hr I.M4 (hb s us I.kIn hl) r2 h) fun r s' hq=>?_);cases r with
 | error e=>exact hx pins σ H s e s' I hq
 | ok fl=>
  cases fl with
  | ret u=>exact I.after hq
  | next=>exact False.elim hq
  | brk=>exact False.elim hq
  | cont=>exact False.elim hq
theorem xk (F:aG X.prog X.w X.K X.mg X.base CX k f fd ps sp) (hr:bN k X.A) (hg:Gl X x) (hm:X.mg x=some (.ref f)) (hk:PySem.W.keepIn X.K (.ref f)=true) (hb:Binds X.K fd ps ds) (hd:Vals dvs ds) (hx:Passes CX X E)
  (ha:PA X (e::es) t) (hdb:autoParam ((x == ("__debug__":Str))=false) d0) (he:autoParam (starEach (e::es) X.env=(false,eval e X.env)::starEach es X.env) r0) (hpl:autoParam ((backTo pos (starEach es X.env)).any (·.1)=false) r0) :
  PE X (.Call (.Name x p) (e::es) [] pos) (kr sp dvs E t):=by
 intro pins s σ H Q I h;refine wpAny_Call_Name_kw (l_ I hg hm ?_ hdb);refine PySem.W.callWith_K (h₀:=X.base) I.ok.mod.kin hk (thn (ha pos pins s σ H _ I h) fun us s1 ⟨vs,H1,I1,r,q⟩=>⟨I1.kIn,?_⟩) he hpl;exact tU F hr hb hd hx I1 r q
theorem EM (F:aG X.prog X.w X.K X.mg X.base CX k f fd ps sp) (hr:bN k X.A) (hg:Gl X x) (hm:X.mg x=some (.ref f)) (hk:PySem.W.keepIn X.K (.ref f)=true) (hb:Binds X.K fd ps ds) (hd:Vals dvs ds) (hx:Passes CX X E)
  (hdb:autoParam ((x == ("__debug__":Str))=false) d0):PE X (.Call (.Name x p) [] [] pos) (kr sp dvs E rz):=by
 intro pins s σ H Q I h;refine wpAny_Call_Name_kw (l_ I hg hm ?_ hdb);exact PySem.W.callWith_K0 I.kIn hk (tU (us:=[]) F hr hb hd hx I .nil h)
theorem Hr {pl:Sem Bool} (he:PE X o ta) (c:Cls X.K C) (hm:Meth X.K C m f) (F:aG X.prog X.w X.K X.mg X.base CX k f fd ps sp) (hr:bN k X.A) (hb:Binds X.K fd ps ds) (hd:Vals dvs ds) (hx:Passes CX X E) (ha:PA X (e::es) t)
  (hst:autoParam (starEach (e::es) X.env=(false,eval e X.env)::starEach es X.env) r0) (hpl:autoParam ((backTo pos (starEach es X.env)).any (·.1)=false) r0)
  (ht:eval (.Call (.Attribute o m apos) (e::es) [] pos) X.env=(do
   let ov <- eval o X.env
   standAt apos.atName
   let (f,first) <- holding [ov] (getMethod ov m pl)
   callWith pos f first (backTo pos (starEach (e::es) X.env)) (backToKw pos (keywordEach [] X.env))):=by rfl) :
  PE X (.Call (.Attribute o m apos) (e::es) [] pos) (yL C m sp dvs E ta t):=by
 intro pins s σ H Q I h;refine PySem.W.methodCall_KW (pl:=pl) (thn (he pins s σ H _ I h) fun u s1 Z=>?_) ht;obtain⟨x,H1,I1,rx,a,dx,fs,ex,ea,l,q⟩:=Z;subst ex;obtain rfl:u=Value.ref a:=rx;refine nH I1 ea c hm l ?_;refine PySem.W.callWith_K (first:=[.ref a]) (h₀:=X.base) I.ok.mod.kin hm.kp (thn (ha pos pins s1 σ H1 _ I1 q) fun us s2 ⟨vs,H2,I2,r,q2⟩=>⟨I2.kIn,?_⟩) hst hpl;exact tU (us:=.ref a::us) (vs:=.ref a::vs) F hr hb hd hx I2 (.cons rfl r) q2
theorem EG {pl:Sem Bool} (he:PE X o ta) (c:Cls X.K C) (hm:Meth X.K C m f) (F:aG X.prog X.w X.K X.mg X.base CX k f fd ps sp) (hr:bN k X.A) (hb:Binds X.K fd ps ds) (hd:Vals dvs ds) (hx:Passes CX X E)
  (ht:eval (.Call (.Attribute o m apos) [] [] pos) X.env=(do
   let ov <- eval o X.env
   standAt apos.atName
   let (f,first) <- holding [ov] (getMethod ov m pl)
   callWith pos f first (backTo pos (starEach [] X.env)) (backToKw pos (keywordEach [] X.env))):=by rfl) :
  PE X (.Call (.Attribute o m apos) [] [] pos) (yL C m sp dvs E ta rz):=by
 intro pins s σ H Q I h;refine PySem.W.methodCall_KW (pl:=pl) (thn (he pins s σ H _ I h) fun u s1 Z=>?_) ht;obtain⟨x,H1,I1,rx,a,dx,fs,ex,ea,l,q⟩:=Z;subst ex;obtain rfl:u=Value.ref a:=rx;refine nH I1 ea c hm l ?_;exact PySem.W.callWith_K0 (first:=[.ref a]) I1.kIn hm.kp (tU (us:=[.ref a]) (vs:=[.ref a]) F hr hb hd hx I1 (.cons rfl .nil) q)
structure Mk (K:Fg0) (C f:Addr):Prop where
 makes:PySem.W.makesIn K C=true
 init:PySem.W.findIn K (.ref C) "__init__"=some (some (.ref f))
 fn:PySem.W.isFn K (.ref f)=true
 kp:PySem.W.keepIn K (.ref C)=true
theorem Ea {pins:Pn} {σ:St} {H:Hp} {s:Shared} {Q:VK} {us:Lv0} {vs:List V} (M:Mk X.K C f) (F:aG X.prog X.w X.K X.mg X.base CX k f fd ps sp) (hr:bN (k + 1) X.A) (hb:Binds X.K fd ps ds) (hd:Vals dvs ds)
  (hx:Passes CX X E) (I:Inv X pins σ H s) (r:Vals vs us)
  (h:∀ x dx,H x=none->H dx=none->dx≠x->sp (.ref x::(vs++dvs)) (upd (upd H dx (.own x)) x (.ins C dx [])) (fun v H2=>v=.non/\Q (.ref x) H2) E) :
  wpAny (model X.prog X.w) X.A (call (.ref C) us) (EP X pins σ Q) X.xe s:=by
 have hq:=h (s.heap.objs.size + 1) s.heap.objs.size (I.hok.fresh (Nat.le_succ _)) (I.hok.fresh (Nat.le_refl _)) (Nat.ne_of_lt (Nat.lt_succ_self _));have I2:=Inv.made (C:=C) I;have r2:Vals (V.ref (s.heap.objs.size + 1)::(vs++dvs)) (Value.ref (s.heap.objs.size + 1)::(us++ds)):=.cons rfl (r.append hd);have hl:(Value.ref (s.heap.objs.size + 1)::us++ds).length=ps.length:=by
  have e:=r2.length;rw[F.len _ _ _ _ hq] at e;exact e.symm
 refine wpAny_call (Fc (f:=f) I.kIn M.makes M.init (beq_iff_eq.mp M.fn) (codeAny_mono (F.run _ X.stack _ _ ⟨Value.ref (s.heap.objs.size + 1)::us,[]⟩ (Value.ref (s.heap.objs.size + 1)::(us++ds)) _ _ E (hr.make C us [])
  (I2.M4.make C us []) (hb _ (Value.ref (s.heap.objs.size + 1)::us) I2.kIn hl) r2 hq) fun r s' hq'=>?_))
 cases r with
 | error e=>exact hx pins σ _ _ e s' I2 hq'
 | ok fl=>
  cases fl with
  | ret u=>
   obtain⟨v,H',I3,rv,ev,q3⟩:=I2.after hq';subst ev;exact⟨rv,⟨V.ref (s.heap.objs.size + 1),H',I3,rfl,q3⟩⟩
  | next=>exact False.elim hq'
  | brk=>exact False.elim hq'
  | cont=>exact False.elim hq'
theorem Hs (M:Mk X.K C f) (F:aG X.prog X.w X.K X.mg X.base CX k f fd ps sp) (hr:bN (k + 1) X.A) (hg:Gl X x) (hm:X.mg x=some (.ref C)) (hb:Binds X.K fd ps ds) (hd:Vals dvs ds) (hx:Passes CX X E)
  (ha:PA X (e::es) t) (hdb:autoParam ((x == ("__debug__":Str))=false) d0) (he:autoParam (starEach (e::es) X.env=(false,eval e X.env)::starEach es X.env) r0) (hpl:autoParam ((backTo pos (starEach es X.env)).any (·.1)=false) r0) :
  PE X (.Call (.Name x p) (e::es) [] pos) (DX C sp dvs E t):=by
 intro pins s σ H Q I h;refine wpAny_Call_Name_kw (l_ I hg hm ?_ hdb);refine PySem.W.callWith_K (h₀:=X.base) I.ok.mod.kin M.kp (thn (ha pos pins s σ H _ I h) fun us s1 ⟨vs,H1,I1,r,q⟩=>⟨I1.kIn,?_⟩) he hpl;exact Ea M F hr hb hd hx I1 r q
end
section
variable {X:Cx} {CX:CXT} {k:Nat} {f C:Addr} {fd:FuncData} {ps ks:Ls0} {sp:Sp} {E:XK} {x m:Str} {p pos apos kpos:Pos} {e o:Expr} {es:List Expr} {kws:List Keyword} {te ta:TE} {t tk:TA} {nm:Option Str}
variable {g:Lv0->Lv0->Lv0} {gV:List V->List V->List V}
end
structure aq (N P:Ls0) (sc:Scope):Prop where
 kind:sc.kind=.function
 co:sc.isCoroutine=false
 gen:sc.isGenerator=false
 nd:N.Nodup
 pre:N.take P.length=P
 par:∀ x∈P,sc.names.lookup x=some .local\/sc.names.lookup x=some .cell
 nofree:∀ y∈sc.names,y.2≠.free
theorem wF {kindOf:Str->Option NameKind} {x:Str}:∀ {binds:List (Str×Value)} {m:SV},(∀ v,(x,v)∉binds)->bindL kindOf binds m x=m x
 | [],_,_=>rfl
 | (n,v)::r,m,h=>by
  unfold bindL;rw[wF fun w hw=>h w (List.mem_cons_of_mem _ hw)];split
  ·have:x≠n:=by rintro rfl;exact h v List.mem_cons_self
   simp [this]
  ·rfl
theorem wH {kindOf:Str->Option NameKind} {x:Str}:∀ {binds:List (Str×Value)} {m:SV},(∀ v,(x,v)∉binds)->bindC kindOf binds m x=m x
 | [],_,_=>rfl
 | (n,v)::r,m,h=>by
  unfold bindC;rw[wH fun w hw=>h w (List.mem_cons_of_mem _ hw)];split
  ·rfl
  ·have:x≠n:=by rintro rfl;exact h v List.mem_cons_self
   simp [this]
theorem wG {kindOf:Str->Option NameKind} {x:Str} {v:Value}:∀ {P:Ls0} {vs:Lv0} {i:Nat} {m:SV},P.Nodup->P[i]?=some x->vs[i]?=some v->kindOf x=some .local->
  bindL kindOf (P.zip vs) m x=some v
 | [],_,_,_,_,h,_,_=>by simp at h
 | _::_,[],_,_,_,_,h,_=>by simp at h
 | p::P,w::vs,0,m,nd,h1,h2,hk=>by
  simp at h1 h2;subst h1;subst h2;show bindL kindOf ((p,w)::P.zip vs) m p=_;unfold bindL;rw[wF fun v hv=>(List.nodup_cons.mp nd).1 (List.of_mem_zip hv).1,if_pos hk];simp
 | p::P,w::vs,i + 1,m,nd,h1,h2,hk=>by
  show bindL kindOf ((p,w)::P.zip vs) m x=_;unfold bindL;exact wG (i:=i) (List.nodup_cons.mp nd).2 (by simpa using h1) (by simpa using h2) hk
theorem wI {kindOf:Str->Option NameKind} {x:Str} {v:Value}:∀ {P:Ls0} {vs:Lv0} {i:Nat} {m:SV},P.Nodup->P[i]?=some x->vs[i]?=some v->kindOf x≠some .local->
  bindC kindOf (P.zip vs) m x=some v
 | [],_,_,_,_,h,_,_=>by simp at h
 | _::_,[],_,_,_,_,h,_=>by simp at h
 | p::P,w::vs,0,m,nd,h1,h2,hk=>by
  simp at h1 h2;subst h1;subst h2;show bindC kindOf ((p,w)::P.zip vs) m p=_;unfold bindC;rw[wH fun v hv=>(List.nodup_cons.mp nd).1 (List.of_mem_zip hv).1,if_neg hk];simp
 | p::P,w::vs,i + 1,m,nd,h1,h2,hk=>by
  show bindC kindOf ((p,w)::P.zip vs) m x=_;unfold bindC;exact wI (i:=i) (List.nodup_cons.mp nd).2 (by simpa using h1) (by simpa using h2) hk
noncomputable def start (N:Ls0) (vs:List V):St:=vs.map some++List.replicate (N.length - vs.length) none
noncomputable def yk (CX:CXT) (P:Program) (w:World) (K:Fg0) (mg:SV) (base:Heap) (N:Ls0) (qual:Str) (scope:Scope) (f:Addr) (cd:Value) (A:Around) (outer:List Env) (s:Shared) (H:Hp) (E:XK):Cx where
 prog:=P
 w:=w
 K:=K
 mg:=mg
 base:=base
 A:=A.deeper (envOfC qual scope s.heap.objs.size f cd)
 N:=N
 s₀:=s
 H₀:=H
 env:=envOfC qual scope s.heap.objs.size f cd
 outer:=outer
 stack:=envOfC qual scope s.heap.objs.size f cd::outer
 ex:=[]
 calm:=true
 fn:=fun _=>true
 pn:=[]
 xe:=fun e s'=>wpAny (model P w) (A.deeper (envOfC qual scope s.heap.objs.size f cd)) (leaving (envOfC qual scope s.heap.objs.size f cd) e) (fun _ s''=>CX outer H s E e s'') (fun e' s''=>CX outer H s E e' s'') s'
theorem zX {sc:Scope} {n:Nat} {x:Str} (h:sc.names.lookup x=some .cell):∃ c,(cellsFrom n sc.names []).lookup x=some c:=by
 have q:=PySem.W.cellsFrom_some sc.names n [] (.inl h);exact Option.isSome_iff_exists.mp q
theorem Du {CX:CXT} {P:Program} {w:World} {K:Fg0} {mg:SV} {base:Heap} {N ps:Ls0} {qual:Str} {scope:Scope} {f:Addr} {cd:Value} {A:Around} {outer:List Env} {s s1:Shared} {H:Hp} {E:XK} {us:Lv0} {vs:List V}
  (S:aq N ps scope) (hd:A.handled=none) (e0:Ac P w K mg base A outer s H) (hl:vs.length=ps.length) (r:Vals vs us)
  (x:InCallC s s.heap.objs.size (bindL (envOfC qual scope s.heap.objs.size f cd).kindOf (ps.zip us) fun _=>none) (cellsFrom (s.heap.objs.size + 1) scope.names []) (bindC (envOfC qual scope s.heap.objs.size f cd).kindOf (ps.zip us) fun _=>none) s1) :
  Inv (yk CX P w K mg base N qual scope f cd A outer s H E) [] (start N vs) H s1:=by
 have hpl:ps.length<=N.length:=by have:=congrArg List.length S.pre;rw[List.length_take] at this;omega
 obtain⟨h1,tk,rfl,hk⟩:=x.done;have noA:∀ b:Addr,b∉(yk CX P w K mg base N qual scope f cd A outer s H E).ex:=fun b z=>absurd (show b∈([]:La0) from z) (by simp);refine⟨⟨e0.mod,S.kind,rfl,rfl,Nat.le_refl _,fun y z c h1 h2=>?_,fun y hy=>?_,fun y c _ h=>?_,fun _=>hd,Around.frames_deeper e0.frames,.inr ⟨rfl,rfl⟩,fun b z=>absurd z (noA b),e0.bs,e0.bsz,fun b _ _=>noA b,fun b z=>absurd z (noA b),e0.nI,e0.frf,e0.tb⟩,
  rfl,e0.bare,Un.kept hk,⟨_,x.toInCall.ns,fun i y v h1 h2 h3=>?_⟩,fun y c h=>⟨_,x.cell y c h⟩,e0.hok.fresh (Nat.le_refl _),fun y c h=>?_,fun p hp=>absurd (show p∈([]:Pn) from hp) (by simp),e0.hok.kept hk,?_⟩
 ·exact name_of_addr x.apart (PySem.mem_of_lookup h1) (PySem.mem_of_lookup h2)
 ·have hy:scope.names.lookup y=some .cell\/scope.names.lookup y=some .free:=hy;rcases hy with hy | hy
  ·exact zX hy
  ·exact absurd rfl (S.nofree _ (PySem.mem_of_lookup hy))
 ·exact Nat.le_of_lt (x.above y c (PySem.mem_of_lookup h))
 ·have hi:i < vs.length:=by
   unfold start at h2;by_cases hi:i < vs.length
   ·exact hi
   ·rw[List.getElem?_append_right (by simpa using hi)] at h2;rw[List.getElem?_replicate] at h2;split at h2 <;> cases h2
  have ha:vs[i]?=some v:=by
   unfold start at h2;rw[List.getElem?_append_left (by simpa using hi),List.getElem?_map] at h2;cases e:vs[i]? with
   | none=>rw[e] at h2;cases h2
   | some a=>rw[e] at h2;cases h2;rfl
  obtain⟨u,hu,rv⟩:=r.get ha;have hp:ps[i]?=some y:=by
   rw[<- S.pre,List.getElem?_take_of_lt (by omega)];exact h1
  have ndP:ps.Nodup:=by rw[<- S.pre];exact S.nd.sublist (List.take_sublist _ _)
  refine⟨u,rv,?_⟩;rcases S.par y (List.mem_of_getElem? hp) with k | k
  ·exact .inl ⟨k,wG ndP hp hu k⟩
  ·obtain⟨c,e⟩:=zX (n:=s.heap.objs.size + 1) k;refine .inr ⟨.inl k,c,e,?_⟩;have q:=x.cell y c e;rw[wI ndP hp hu (by show scope.names.lookup y≠_;rw[k];decide)] at q;exact q
 ·exact e0.hok.fresh (Nat.le_of_lt (x.above y c (PySem.mem_of_lookup h)))
 ·unfold start;show _=N.length;rw[List.length_append,lM0,List.length_replicate];omega
theorem JA {CX:CXT} {P:Program} {w:World} {K:Fg0} {mg:SV} {base:Heap} {k:Nat} {f:Addr} {name qual:Str} {params:Arguments} {body:List Stmt} {scope:Scope} {dV kV doc pm cdv ct oc:Value} {an od:Option Addr}
  {osl:Array (Option Value)} {N ps:Ls0} {sp:Sp} (lk:K.lookup f=some ⟨oc,od,.func (PySem.W.fnOf name qual params body scope dV kV doc pm an cdv ct),osl⟩) (hcd:PySem.W.codeIn K cdv qual=true) (S:aq N ps scope)
  (len:∀ vs H Q E,sp vs H Q E->vs.length=ps.length)
  (hbody:∀ (A:Around) (outer:List Env) (s:Shared) (H:Hp) (vs:List V) (Q:VK) (E:XK),bN k (A.deeper (envOfC qual scope s.heap.objs.size f cdv))->sp vs H Q E->
   ∃ t,PSs (yk CX P w K mg base N qual scope f cdv A outer s H E) body t/\t { nx:=fun _ H'=>Q .non H',rt:=Q } (start N vs) H) :
  aG P w K mg base CX (k + 1) f (PySem.W.fnOf name qual params body scope dV kV doc pm an cdv ct) ps sp:=by
 refine⟨len,fun A outer s H args us vs Q E hr e0 hb r hsp=>?_⟩;have hl:=len _ _ _ _ hsp;have KX:K.In s.heap:=e0.mod.kin.keeps fun b o e=>(e0.bs b o e).1;have lim:s.heap.NoLimit:=e0.mod.nolimit.keeps fun b o e=>(e0.bs b o e).1;have hkind:∀ y∈ps.zip us,scope.names.lookup y.1=some .local\/(scope.names.lookup y.1=some .cell/\((cellsFrom (s.heap.objs.size + 1) scope.names []).lookup y.1).isSome=true):=fun ⟨n,v⟩ hy=>by
  rcases S.par n (List.of_mem_zip hy).1 with q | q
  ·exact .inl q
  ·exact .inr ⟨q,PySem.W.cellsFrom_some _ _ _ (.inl q)⟩
 refine codeAny_call_function hr.depth (KX _ _ lk) rfl S.co S.gen rfl (PySem.W.codeRec_of KX hcd) (hb _ _ _ _ ?_);refine wpAny_newFunctionEnv_cells S.kind hkind fun env he s1 x=>?_;subst he;refine⟨lim.keeps x.toInCall.keep,codeAny_func ?_⟩;obtain⟨t,ht,hq⟩:=hbody A outer s H vs Q E (hr.deeper _) hsp;have I:Inv (yk CX P w K mg base N qual scope f cdv A outer s H E) [] (start N vs) H s1:=Du S hr.hd e0 hl r x;refine wpAny_mono (ht [] s1 (start N vs) H _ I hq) (fun fl s' hs=>?_) fun e s' hs=>hs;have fin:∀ {σ':St} {H':Hp} {v:V} {u:Value},Inv (yk CX P w K mg base N qual scope f cdv A outer s H E) [] σ' H' s'->RelV v u->Q v H'->CE outer P w H s Q u s':=
  fun {σ' H' v u} J rv q=>⟨v,H',J.os,J.bare,J.base,J.hok,rv,q⟩
 cases fl with
 | ret u=>
  obtain⟨v,σ',H',J,rv,q⟩:=hs;exact fin J rv q
 | next=>
  obtain⟨σ',H',J,q⟩:=hs;exact fin (v:=V.non) (u:=Value.none) J rfl q
 | brk=>
  obtain⟨_,_,_,q⟩:=hs;exact False.elim q
 | cont=>
  obtain⟨_,_,_,q⟩:=hs;exact False.elim q
section
variable {X:Cx} {x:Str} {p pos:Pos} {e:Expr} {es:List Expr} {t:TA} {id T:String} {r:List V->Hp->VK->Prop}
def tCB (r:List V->Hp->VK->Prop) (t:TA):TE:=fun σ H Q=>t σ H fun vs H1=>r vs H1 Q
theorem EL (hc:bV X (.builtin id) r) (hg:Gl X x) (hm:X.mg x=none) (hv:bootBuiltins x=some (.builtin id)) (ha:PA X (e::es) t) (hn:autoParam (x≠"__name__") d0) (hdb:autoParam ((x == ("__debug__":Str))=false) d0)
  (he:autoParam (starEach (e::es) X.env=(false,eval e X.env)::starEach es X.env) r0) (hpl:autoParam ((backTo pos (starEach es X.env)).any (·.1)=false) r0):PE X (.Call (.Name x p) (e::es) [] pos) (tCB r t):=by
 intro pins s σ H Q I h;refine wpAny_Call_Name_kw (jL I hg hm hv ?_ hn hdb);exact PyProof.Rows.callWith_builtin1 (thn (ha pos pins s σ H _ I h) fun us s1 ⟨vs,H1,I1,r1,q1⟩=>hc pins s1 σ H1 vs us Q I1 r1 q1) he hpl
theorem C7 (hc:bV X (.type T) r) (hg:Gl X x) (hm:X.mg x=none) (hv:bootBuiltins x=some (.type T)) (ha:PA X (e::es) t) (hn:autoParam (x≠"__name__") d0) (hdb:autoParam ((x == ("__debug__":Str))=false) d0)
  (he:autoParam (starEach (e::es) X.env=(false,eval e X.env)::starEach es X.env) r0) (hpl:autoParam ((backTo pos (starEach es X.env)).any (·.1)=false) r0):PE X (.Call (.Name x p) (e::es) [] pos) (tCB r t):=by
 intro pins s σ H Q I h;refine wpAny_Call_Name_kw (jL I hg hm hv ?_ hn hdb);exact PyProof.Rows.callWith_type1 (thn (ha pos pins s σ H _ I h) fun us s1 ⟨vs,H1,I1,r1,q1⟩=>hc pins s1 σ H1 vs us Q I1 r1 q1) he hpl
end
end L2
namespace HT
open PySem PyProof.Rows
section
open PySem.SeqAt
open PySem.AutoSeq1 (wpAny_loadPart')
open PySem.MeetsSeq PySem.MeetsSeq2 PySem.MeetsSeq3
end
section
variable {prog:Program} {w:World} {A:Around} {E:VS} {s:Shared}
noncomputable def sIx (n d:Nat):Option Int->Nat
 | none=>d
 | some v=>if v < 0 then (v + (n:Int)).toNat else min v.toNat n
theorem tS (n d:Nat):sIx n d none=d:=rfl
theorem BF (n d k:Nat):sIx n d (some (k:Int))=min k n:=by
 show (if (k:Int) < 0 then ((k:Int) + (n:Int)).toNat else min (k:Int).toNat n)=min k n;rw[if_neg (by omega),Int.toNat_natCast]
end
end HT
namespace L2
open PySem PySem.Spec PyProof.Rows
abbrev TO:=St->Hp->(Option Int->Hp->Prop)->Prop
def PO (X:Cx) (e:Option Expr) (t:TO):Prop:=
 ∀ (pins:Pn) (s:Shared) (σ:St) (H:Hp) (Q:Option Int->Hp->Prop),Inv X pins σ H s->t σ H Q->
  wpAny (model X.prog X.w) X.A (evalPart e X.env) (fun u s'=>∃ o H',Inv X pins σ H' s'/\IsPart u o/\Q o H') X.xe s
def BA:TO:=fun _ H Q=>Q none H
def IL (t:TE):TO:=fun σ H Q=>t σ H fun x H1=>∃ i,x=.int i/\Q (some i) H1
section
variable {X:Cx} {e:Expr} {te:TE} {lo hi:Option Expr} {tl th:TO} {pos p2:Pos}
theorem Hk:PO X none BA:=by
 intro pins s σ H Q I h;rw[evalPart_none];exact wpAny_pure ⟨none,H,I,.none,h⟩
theorem Hj (h:PE X e te):PO X (some e) (IL te):=by
 intro pins s σ H Q I hw;rw[evalPart_some];refine thn (h pins s σ H _ I hw) fun u s1 Z=>?_;obtain⟨x,H1,I1,r1,q1⟩:=Z;obtain⟨i,rfl,q⟩:=q1;obtain⟨t,rfl⟩:=r1;exact⟨some i,H1,I1,.int i t,q⟩
def SlR (X:Cx) (r:V->Option Int->Option Int->Hp->VK->Prop):Prop:=
 ∀ (pins:Pn) (s:Shared) (σ:St) (H:Hp) (x:V) (v vl vu:Value) (lo hi:Option Int) (sl:Addr) (Q:VK),Inv X pins σ H s->RelV x v->s.heap.IsSliceOf sl vl vu .none->IsPart vl lo->IsPart vu hi->r x lo hi H Q->
  ∃ T id,typeLookup (.type T) "__getitem__"=pure (some (.builtin id))/\s.TypeIs v T/\wpAny (model X.prog X.w) X.A (getItem v (.ref sl)) (EP X pins σ Q) X.xe s
def tSl (r:V->Option Int->Option Int->Hp->VK->Prop) (te:TE) (tl th:TO):TE:=fun σ H Q=>te σ H fun x H1=>tl σ H1 fun l H2=>th σ H2 fun u H3=>r x l u H3 Q
theorem EF {r:V->Option Int->Option Int->Hp->VK->Prop} (hr:SlR X r) (he:PE X e te) (hl:PO X lo tl) (hu:PO X hi th):PE X (.Subscript e (.Slice lo hi none p2) pos) (tSl r te tl th):=by
 intro pins s σ H Q I h;refine Subscript_ (thn (he pins s σ H _ I h) fun v s1 Z=>?_);obtain⟨x,H1,I1,r1,q1⟩:=Z;refine wpAny_Slice (thn (hl pins s1 σ H1 _ I1 q1) fun vl s2 ⟨l,H2,I2,pl,q2⟩=>thn (hu pins s2 σ H2 _ I2 q2) fun vu s3 Z=>?_);obtain⟨u,H3,I3,pu,q3⟩:=Z;rw[evalPart_none];refine wpAny_pure ?_;have I4:Inv X pins σ H3 { s3 with heap:=s3.heap.push { cls:=.type "slice",data:=.fields #[vl,vu,.none] } }:=I3.kept (t':=s3.toks) fun b ob q=>Heap.get?_push_of_some _ q;obtain⟨T,id,hT,ht,hg⟩:=hr pins { s3 with heap:=s3.heap.push { cls:=.type "slice",data:=.fields #[vl,vu,.none] } } σ H3 x v vl vu l u s3.heap.objs.size Q I4 r1 (Heap.IsSliceOf.new ..) pl pu q3;show wpAny (model X.prog X.w) X.A (subscriptTail e (.Slice lo hi none p2) v (.ref s3.heap.objs.size)) (EP X pins σ Q) X.xe { s3 with heap:=s3.heap.push { cls:=.type "slice",data:=.fields #[vl,vu,.none] } };exact tail_any (ops:=[.ref s3.heap.objs.size,v]) ht hT hg (by with_unfolding_all rfl)
noncomputable def zS (xs:List V) (lo hi:Option Int):List V:=(xs.drop (HT.sIx xs.length 0 lo)).take (HT.sIx xs.length xs.length hi - HT.sIx xs.length 0 lo)
theorem zR (xs:List V) (lo hi:Option Int):(zS xs lo hi).length<=xs.length:=by
 unfold zS;rw[List.length_take,List.length_drop];omega
end
noncomputable def ixN (n:Nat) (i:Int):Option Nat:=if 0<=i then (if i < n then some i.toNat else none) else if -(n:Int)<=i then some (i + n).toNat else none
noncomputable def atI {α:Type} (xs:List α) (i:Int):Option α:=(ixN xs.length i).bind fun j=>xs[j]?
theorem B7 {n:Nat} {i:Int} {j:Nat} (h:ixN n i=some j):seqIndex? i n=some j/\j < n/\-(n:Int)<=i/\i < n:=by
 unfold ixN at h;by_cases h0:0<=i
 ·rw[if_pos h0] at h;by_cases h1:i < n
  ·rw[if_pos h1] at h;have e:i.toNat=j:=Option.some.inj h;exact⟨by rw[seqIndex_of h0 h1,e],by omega,by omega,h1⟩
  ·rw[if_neg h1] at h;cases h
 ·rw[if_neg h0] at h;by_cases h1:-(n:Int)<=i
  ·rw[if_pos h1] at h;have e:(i + n).toNat=j:=Option.some.inj h;exact⟨by rw[seqIndex_neg (by omega) h1,e],by omega,h1,by omega⟩
  ·rw[if_neg h1] at h;cases h
theorem yE {α:Type} {xs:List α} {i:Int} {v:α} (h:atI xs i=some v):∃ j,seqIndex? i xs.length=some j/\xs[j]?=some v/\j < xs.length/\-(xs.length:Int)<=i/\i < xs.length:=by
 unfold atI at h;cases e:ixN xs.length i with
 | none=>rw[e] at h;cases h
 | some j=>
  rw[e] at h;obtain⟨h1,h2,h3,h4⟩:=B7 e;exact⟨j,h1,h,h2,h3,h4⟩
theorem Iz {α:Type} {xs:List α} {j:Nat} {v:α} (h:xs[j]?=some v):atI xs (j:Int)=some v:=by
 have hj:j < xs.length:=(gS0 h).1;have e:ixN xs.length (j:Int)=some j:=by
  unfold ixN;rw[if_pos (by omega),if_pos (by omega)];simp
 unfold atI;rw[e];exact h
theorem pV {α:Type} (xs:List α) (v:α):atI (xs++[v]) (-1)=some v:=by
 have hl:(xs++[v]).length=xs.length + 1:=by simp
 have e:ixN (xs++[v]).length (-1)=some xs.length:=by
  unfold ixN;rw[hl,if_neg (by decide),if_pos (by omega)]
  congr 1
  omega
 unfold atI;rw[e];show (xs++[v])[xs.length]?=some v;simp
def CF (b:Expr):Prop:=∀ o i,subscripted b false o i=operate [o,i] (getItem o i)
def IxR (X:Cx) (r:R2):Prop:=
 ∀ (value slice:Expr) (pins:Pn) (s:Shared) (σ:St) (H:Hp) (x y:V) (v u:Value) (Q:VK),Inv X pins σ H s->RelV x v->RelV y u->r x y H Q->
  subscripted slice false v u=operate [v,u] (getItem v u)->wpAny (model X.prog X.w) X.A (subscriptTail value slice v u) (EP X pins σ Q) X.xe s
def MtR (X:Cx) (id:String) (r:V->List V->Hp->VK->Prop):Prop:=
 ∀ (pins:Pn) (s:Shared) (σ:St) (H:Hp) (x:V) (xs:List V) (v:Value) (us:Lv0) (Q:VK),Inv X pins σ H s->RelV x v->Vals xs us->r x xs H Q->
  wpAny (model X.prog X.w) X.A (call (.builtin id) (v::us)) (EP X pins σ Q) X.xe s
section
variable {X:Cx} {a b:Expr} {ta tb:TE} {pos:Pos}
theorem IxR.or {r r':R2} (h:IxR X r) (h':IxR X r'):IxR X (fun x y H Q=>r x y H Q\/r' x y H Q):=by
 intro value slice pins s σ H x y v u Q I rx ry q hs;rcases q with q | q
 ·exact h value slice pins s σ H x y v u Q I rx ry q hs
 ·exact h' value slice pins s σ H x y v u Q I rx ry q hs
theorem Me {r:R2} (hr:IxR X r) (ha:PE X a ta) (hb:PE X b tb) (hs:CF b):PE X (.Subscript a b pos) (tOp r ta tb):=by
 intro pins s σ H Q I h;exact Subscript_ (Lm ha hb I h fun v u s2 x y H2 I2 rx ry q=>hr a b pins s2 σ H2 x y v u Q I2 rx ry q (hs _ _))
def LZ (K:Fg0):R2:=fun x y H Q=>∃ p xs i v,x=.ref p/\y=.int i/\SqL K H p xs/\atI xs i=some v/\Q v H
def LX (K:Fg0):R2:=fun x y H Q=>∃ p xs i v,x=.ref p/\y=.int i/\SqT K H p xs/\atI xs i=some v/\Q v H
def LY:R2:=fun x y H Q=>∃ z i c,x=.str z/\y=.int i/\z.length<=sizeLine/\atI z.cps.toList i=some c/\Q (.str ⟨#[c]⟩) H
theorem HX:IxR X (LZ X.K):=by
 intro value slice pins s σ H x y v u Q I rx ry h hs;obtain⟨p,xs,i,z,rfl,rfl,hq,he,q⟩:=h;cases rx;obtain⟨t,rfl⟩:=ry;obtain⟨its,r,pl,hz⟩:=I.list hq;obtain⟨j,h1,h2,h3,h4,h5⟩:=yE he;obtain⟨w,ew,rw'⟩:=r.get h2;have hl:=r.length;have hn:=qj;have fin:EP X pins σ Q w s:=⟨z,H,I,rw',q⟩;by_cases h0:0<=i
 ·have hj:i.toNat=j:=by
   rw[seqIndex_of h0 h5] at h1;exact Option.some.inj h1
  exact item_listR pl.isList h0 (by omega) (by rw[hj];simpa using ew) fin hs
 ·have hj:(i + (its.toArray.size:Int)).toNat=j:=by
   rw[seqIndex_neg (by omega) h4] at h1;rw[List.size_toArray,<- hl];exact Option.some.inj h1
  exact subscriptTail_builtinR (x:=w) pl.isList.typeIs slot_list_getitem.lookup
   (wpAny_getItem_list_neg (Q:=fun r s'=>r=w/\EP X pins σ Q r s') pl.isList (by omega) (by rw[List.size_toArray] <;> omega) (by omega) (by rw[hj];simpa using ew) ⟨rfl,fin⟩) hs
theorem K8:IxR X (LX X.K):=by
 intro value slice pins s σ H x y v u Q I rx ry h hs;obtain⟨p,xs,i,z,rfl,rfl,hq,he,q⟩:=h;cases rx;obtain⟨t,rfl⟩:=ry;obtain⟨its,r,pl,hz⟩:=I.tuple hq;obtain⟨j,h1,h2,h3,h4,h5⟩:=yE he;obtain⟨w,ew,rw'⟩:=r.get h2;have hl:=r.length;have hn:=qj;have fin:EP X pins σ Q w s:=⟨z,H,I,rw',q⟩;exact subscriptTail_builtinR (x:=w) pl.typeIs slot_tuple_getitem.lookup
  (getItem_tuple (j:=j) (Q:=fun r s'=>r=w/\EP X pins σ Q r s') pl (by omega) (by omega) (by rw[List.size_toArray,<- hl];exact h1) (by simpa using ew) ⟨rfl,fin⟩) hs
theorem K9:IxR X LY:=by
 intro value slice pins s σ H x y v u Q I rx ry h hs;obtain⟨z,i,c,rfl,rfl,hz,he,q⟩:=h;obtain⟨t,rfl⟩:=rx;obtain⟨t',rfl⟩:=ry;obtain⟨j,h1,h2,h3,h4,h5⟩:=yE he;have hl:z.cps.toList.length=z.length:=by simp [Str.length]
 rw[hl] at h1 h4 h5;have hn:=qj;exact tail_any (typeIs_str s z t) slot_str_getitem.lookup (getItem_str (c:=c) (by
  have e1:decide (i < -(2 ^ 63:Int))=false:=decide_eq_false (by omega);have e2:decide (i≥2 ^ 63)=false:=decide_eq_false (by omega);rw[e1,e2,Bool.or_false]) (by rw[h1];simpa using h2) ⟨.str ⟨#[c]⟩,H,I.tok _,⟨_,rfl⟩,q⟩) hs
def rIx (K:Fg0):R2:=fun x y H Q=>LZ K x y H Q\/LX K x y H Q\/LY x y H Q
theorem K_:IxR X (rIx X.K):=HX.or (K8.or K9)
theorem AS (its:Lv0) (n j:Nat) (u:Value):Obj.mapSeq (·.setIfInBounds j u) { cls:=.type "list",data:=.seq its.toArray n }={ cls:=.type "list",data:=.seq (its.set j u).toArray n }:=by
 simp [Obj.mapSeq]
theorem Inv.lst {pins:Pn} {σ:St} {H:Hp} {s:Shared} {p:Addr} {xs:List V} (I:Inv X pins σ H s) (h:H p=some (.lst xs)) :
  ∃ (its:Lv0) (n:Nat),Vals xs its/\s.heap.get? p=some { cls:=.type "list",data:=.seq its.toArray n }/\xs.length<=sizeLine:=by
 obtain⟨z,its,n,r,e⟩:=I.hok p _ h;exact⟨its,n,r,e,z⟩
theorem Inv.KZ {pins:Pn} {σ:St} {H:Hp} {s:Shared} {p:Addr} {xs ys:List V} {its its':Lv0} {n n':Nat} {f:Obj->Obj} (I:Inv X pins σ H s) (h:H p=some (.lst xs))
  (ho:s.heap.get? p=some { cls:=.type "list",data:=.seq its.toArray n }) (hf:f { cls:=.type "list",data:=.seq its.toArray n }={ cls:=.type "list",data:=.seq its'.toArray n' }) (r:Vals ys its') (hz:ys.length<=sizeLine) (t:Nat) :
  Inv X pins σ (upd H p (.lst ys)) { s with heap:=s.heap.update p f,toks:=t }:=by
 have e:(s.heap.update p f).get? p=some { cls:=.type "list",data:=.seq its'.toArray n' }:=by
  rw[Heap.get?_update_self f ho (by rw[hf] <;> rfl),hf]
 refine I.write (x:=p) (e:=p) (by rw[h];trivial) (.inl rfl) (fun b u hb q=>(Heap.get?_update_other _ _ (Ne.symm hb)).trans q) ⟨_,e⟩ ?_;exact⟨hz,its',n',r,e⟩
def kL:V->V->V->Hp->(Hp->Prop)->Prop:=fun o i v H Q=>∃ p xs k j,o=.ref p/\i=.int k/\H p=some (.lst xs)/\ixN xs.length k=some j/\Q (upd H p (.lst (xs.set j v)))
theorem set_list:Nt X kL:=by
 intro pins s σ H o i v ov iv u Q I ro ri rv h;obtain⟨p,xs,k,j,rfl,rfl,hp,hj,q⟩:=h;cases ro;obtain⟨t,rfl⟩:=ri;obtain⟨its,n,r,ho,hz⟩:=I.lst hp;obtain⟨h1,h2,h3,h4⟩:=B7 hj;have hl:=r.length;have hn:=qj;have I':Inv X pins σ (upd H p (.lst (xs.set j v))) { s with heap:=s.heap.update p (Obj.mapSeq (·.setIfInBounds j u)) }:=
  I.KZ hp ho (AS its n j u) (r.set rv j) (by rw[List.length_set];exact hz) s.toks
 by_cases h0:0<=k
 ·have hk:k.toNat=j:=by
   rw[seqIndex_of h0 h4] at h1;exact Option.some.inj h1
  exact PySem.W.ki_setAt ho h0 (by omega) (by rw[List.size_toArray,<- hl];exact h4) (by rw[hk];exact⟨_,I',q⟩)
 ·have hk:(k + (its.toArray.size:Int)).toNat=j:=by
   rw[seqIndex_neg (by omega) h3] at h1;rw[List.size_toArray,<- hl];exact Option.some.inj h1
  exact PySem.W.ki_setBack ho (by omega) (by rw[List.size_toArray,<- hl];exact h3) (by omega) (by rw[hk];exact⟨_,I',q⟩)
theorem wW (lo hi:Option Int) (n:Nat):(sliceBounds lo hi none n).1=((HT.sIx n 0 lo:Nat):Int)/\(sliceBounds lo hi none n).2.1=((HT.sIx n n hi:Nat):Int)/\(sliceBounds lo hi none n).2.2=1:=by
 refine⟨?_,?_,rfl⟩
 ·cases lo with
  | none=>simp [sliceBounds,HT.sIx]
  | some i=>
   simp only[sliceBounds,HT.sIx,Option.getD_none,show (1:Int) > 0 by decide,if_true];by_cases h:i < 0
   ·simp only[h,if_true] <;> omega
   ·simp only[h,if_false] <;> omega
 ·cases hi with
  | none=>simp [sliceBounds,HT.sIx]
  | some i=>
   simp only[sliceBounds,HT.sIx,Option.getD_none,show (1:Int) > 0 by decide,if_true];by_cases h:i < 0
   ·simp only[h,if_true] <;> omega
   ·simp only[h,if_false] <;> omega
theorem u9 (its:Lv0) (lo hi:Option Int):slicePick its.toArray lo hi none=((its.drop (HT.sIx its.length 0 lo)).take (HT.sIx its.length its.length hi - HT.sIx its.length 0 lo)).toArray:=by
 obtain⟨h1,h2,h3⟩:=wW lo hi its.toArray.size;unfold slicePick;rw[h1,h2,h3];simp only[sliceRange_one,pick_run,List.size_toArray] <;> rfl
def LW (K:Fg0):V->Option Int->Option Int->Hp->VK->Prop:=fun x lo hi H Q=>∃ a xs,x=.ref a/\SqL K H a xs/\∀ p,H p=none->Q (.ref p) (upd H p (.lst (zS xs lo hi)))
theorem GW:SlR X (LW X.K):=by
 intro pins s σ H x v vl vu lo hi sl Q I rx hs pl pu h;obtain⟨a,xs,rfl,hx,q⟩:=h;cases rx;obtain⟨its,r,ht,hz⟩:=I.list hx;have hlen:=r.length;refine⟨"list",_,slot_list_getitem.lookup,ht.isList.typeIs,?_⟩;refine wpAny_getItem_list_slice ht.isList hs pl pu .none (by simp) ?_ (by rw[List.size_toArray] <;> omega);rw[u9,<- hlen];refine⟨.ref s.heap.objs.size,_,I.laid (t':=s.toks) (o:=.lst (zS xs lo hi)) (fun b ob q=>Heap.get?_push_of_some _ q) (Nat.le_refl _) ?_,rfl,q _ (I.hok.fresh (Nat.le_refl _))⟩;exact⟨Nat.le_trans (zR xs lo hi) hz,_,0,(r.drop (HT.sIx xs.length 0 lo)).take (HT.sIx xs.length xs.length hi - HT.sIx xs.length 0 lo),Heap.get?_push_size _ rfl⟩
noncomputable def mT:V->Bool
 | .non=>true
 | .bl _=>true
 | .int _=>true
 | .str _=>true
 | _=>false
noncomputable def eqV:V->V->Bool
 | .non,.non=>true
 | .bl a,.bl b=>a == b
 | .bl a,.int b=>(if a then 1 else 0) == b
 | .int a,.bl b=>a == (if b then 1 else 0)
 | .int a,.int b=>a == b
 | .str a,.str b=>a == b
 | _,_=>false
theorem Li {A:Around} {s:Shared} {y x:V} {u v:Value} (ry:RelV y u) (rx:RelV x v) (fy:mT y=true) (fx:mT x=true):SeqAt.EqAt A s u v (eqV y x):=by
 cases y with
 | non=>
  cases ry;cases x with
  | non=>cases rx;exact SeqAt.EqAt.same _
  | bl b=>cases rx;exact SeqAt.EqAt.none_bool b
  | int b=>obtain⟨t,rfl⟩:=rx;exact SeqAt.EqAt.none_int b t
  | str b=>obtain⟨t,rfl⟩:=rx;exact SeqAt.EqAt.none_str b t
  | _=>exact absurd (show false=true from fx) Bool.false_ne_true
 | bl a=>
  cases ry;cases x with
  | non=>cases rx;exact SeqAt.EqAt.bool_none a
  | bl b=>cases rx;exact SeqAt.EqAt.bool_bool a b
  | int b=>obtain⟨t,rfl⟩:=rx;exact SeqAt.EqAt.bool_int a b t
  | str b=>obtain⟨t,rfl⟩:=rx;exact SeqAt.EqAt.bool_str a b t
  | _=>exact absurd (show false=true from fx) Bool.false_ne_true
 | int a=>
  obtain⟨t',rfl⟩:=ry;cases x with
  | non=>cases rx;exact SeqAt.EqAt.int_none a t'
  | bl b=>cases rx;exact SeqAt.EqAt.int_bool a t' b
  | int b=>obtain⟨t,rfl⟩:=rx;exact SeqAt.EqAt.int_int a t' b t
  | str b=>obtain⟨t,rfl⟩:=rx;exact SeqAt.EqAt.int_str a t' b t
  | _=>exact absurd (show false=true from fx) Bool.false_ne_true
 | str a=>
  obtain⟨t',rfl⟩:=ry;cases x with
  | non=>cases rx;exact SeqAt.EqAt.str_none a t'
  | bl b=>cases rx;exact SeqAt.EqAt.str_bool a t' b
  | int b=>obtain⟨t,rfl⟩:=rx;exact SeqAt.EqAt.str_int a t' b t
  | str b=>obtain⟨t,rfl⟩:=rx;exact SeqAt.EqAt.str_str a t' b t
  | _=>exact absurd (show false=true from fx) Bool.false_ne_true
 | _=>exact absurd (show false=true from fy) Bool.false_ne_true
noncomputable def eqU (x:V) (u:Value):Bool:=match u with
 | .none=>eqV .non x
 | .bool b=>eqV (.bl b) x
 | .int i _=>eqV (.int i) x
 | .str z _=>eqV (.str z) x
 | _=>false
theorem FK {x y:V} {u:Value} (r:RelV y u) (f:mT y=true):eqU x u=eqV y x:=by
 cases y with
 | non=>cases r;rfl
 | bl b=>cases r;rfl
 | int i=>obtain⟨t,rfl⟩:=r;rfl
 | str z=>obtain⟨t,rfl⟩:=r;rfl
 | _=>exact absurd (show false=true from f) Bool.false_ne_true
theorem yI {x:V}:∀ {xs:List V} {us:Lv0},Vals xs us->xs.all mT=true->us.any (eqU x)=xs.any fun y=>eqV y x
 | _,_,.nil,_=>rfl
 | y::xs,u::us,.cons r t,f=>by
  rw[List.all_cons,Bool.and_eq_true] at f;rw[List.any_cons,List.any_cons,FK r f.1,yI t f.2]
theorem ue {A:Around} {s:Shared} {x:V} {v:Value} (rx:RelV x v) (fx:mT x=true):∀ {xs:List V} {us:Lv0},Vals xs us->xs.all mT=true->∀ u∈us,SeqAt.EqAt A s u v (eqU x u)
 | _,_,.nil,_=>fun u hu=>by cases hu
 | y::xs,u::us,.cons r t,f=>fun u' hu=>by
  rw[List.all_cons,Bool.and_eq_true] at f;rcases List.mem_cons.mp hu with rfl | hu
  ·rw[FK r f.1];exact Li r rx f.1 fx
  ·exact ue rx fx t f.2 u' hu
noncomputable def inV (x:V) (xs:List V):Bool:=xs.any fun y=>eqV y x
def rIn (K:Fg0) (neg:Bool):R2:=fun x y H Q=>∃ p xs,y=.ref p/\(SqL K H p xs\/SqT K H p xs)/\mT x=true/\xs.all mT=true/\Q (.bl (if neg then !inV x xs else inV x xs)) H
theorem C_:OpR X (compareOp .In) (rIn X.K false):=by
 intro pins s σ H x y v u Q I rx ry h;obtain⟨p,xs,rfl,hq,fx,fs,q⟩:=h;cases ry;rcases hq with hq | hq
 ·obtain⟨its,r,pl,hz⟩:=I.list hq;refine SeqAt.in_listAt (eqU x) pl.isList (fun w hw=>ue rx fx r fs w (by simpa using hw)) ⟨.bl _,H,I,rfl,?_⟩;rw[show its.toArray.any (eqU x)=its.any (eqU x) by simp,yI r fs];exact q
 ·obtain⟨its,r,pl,hz⟩:=I.tuple hq;refine SeqAt.in_tupleAt (eqU x) pl (fun w hw=>ue rx fx r fs w (by simpa using hw)) ⟨.bl _,H,I,rfl,?_⟩;rw[show its.toArray.any (eqU x)=its.any (eqU x) by simp,yI r fs];exact q
theorem yw:bV X (.builtin "len") (fun xs H Q=>∃ p ys,xs=[.ref p]/\(SqL X.K H p ys\/SqT X.K H p ys)/\Q (.int ys.length) H):=by
 intro pins s σ H xs us Q I r h;obtain⟨p,ys,rfl,hq,q⟩:=h;obtain⟨u,rfl,rx⟩:=vals1 r;cases rx;have hn:=qj;rcases hq with hq | hq
 ·obtain⟨its,r',pl,hz⟩:=I.list hq;have hlen:=r'.length;exact Calls.call_len_list pl.isList (by simp only[List.size_toArray] <;> omega) ⟨.int ys.length,H,I.tok _,⟨s.toks + 1,by rw[List.size_toArray,hlen]⟩,q⟩
 ·obtain⟨its,r',pl,hz⟩:=I.tuple hq;have hlen:=r'.length;exact len_tuple pl (by simp only[List.size_toArray] <;> omega) ⟨.int ys.length,H,I.tok _,⟨s.toks + 1,by rw[List.size_toArray,hlen]⟩,q⟩
theorem yu:bV X (.builtin "len") (fun xs H Q=>∃ z,xs=[.str z]/\z.length<=sizeLine/\Q (.int z.length) H):=by
 intro pins s σ H xs us Q I r h;obtain⟨z,rfl,hz,q⟩:=h;obtain⟨u,rfl,t,rfl⟩:=vals1 r;have hn:=qj;exact len_str (by omega) ⟨.int z.length,H,I.tok _,⟨_,rfl⟩,q⟩
theorem bV.or {f:Value} {r r':List V->Hp->VK->Prop} (h:bV X f r) (h':bV X f r'):bV X f (fun xs H Q=>r xs H Q\/r' xs H Q):=by
 intro pins s σ H xs us Q I rs q;rcases q with q | q
 ·exact h pins s σ H xs us Q I rs q
 ·exact h' pins s σ H xs us Q I rs q
theorem yr:bV X (.type "list") (fun xs H Q=>∃ p ys,xs=[.ref p]/\(SqL X.K H p ys\/SqT X.K H p ys)/\∀ l,H l=none->Q (.ref l) (upd H l (.lst ys))):=by
 intro pins s σ H xs us Q I r h;obtain⟨p,ys,rfl,hq,q⟩:=h;obtain⟨u,rfl,rx⟩:=vals1 r;cases rx;have fin:∀ (its:Lv0),Vals ys its->ys.length<=sizeLine->∀ (h':Heap) (c':Nat),(∀ b o',s.heap.get? b=some o'->h'.get? b=some o')->
   h'.get? s.heap.objs.size=some { cls:=.type "list",dict:=none,data:=.seq its.toArray c',slots:=#[] }->EP X pins σ Q (.ref s.heap.objs.size) { s with heap:=h' }:=fun its r' hz h' c' kp e=>
  ⟨.ref s.heap.objs.size,_,I.laid (t':=s.toks) kp (Nat.le_refl _) (show cV X.prog X.w _ h' _ (.lst ys) from ⟨hz,its,c',r',e⟩),rfl,q _ (I.hok.fresh (Nat.le_refl _))⟩
 rcases hq with hq | hq
 ·obtain⟨its,r',pl,hz⟩:=I.list hq;have hlen:=r'.length;obtain⟨o,ho,hc,n,hd⟩:=pl.isList;exact call_list_seq p (.inl rfl) ho hc hd (fun h' c' kp e=>fin its r' hz h' c' kp e) (by simp only[List.size_toArray] <;> omega)
 ·obtain⟨its,r',pl,hz⟩:=I.tuple hq;have hlen:=r'.length;obtain⟨o,ho,hc,n,hd⟩:=pl;exact call_list_seq p (.inr rfl) ho hc hd (fun h' c' kp e=>fin its r' hz h' c' kp e) (by simp only[List.size_toArray] <;> omega)
theorem vt:bV X (.type "tuple") (fun xs H Q=>∃ p ys,xs=[.ref p]/\((SqL X.K H p ys/\∀ l,H l=none->Q (.ref l) (upd H l (.tup ys)))\/(SqT X.K H p ys/\Q (.ref p) H))):=by
 intro pins s σ H xs us Q I r h;obtain⟨p,ys,rfl,h⟩:=h;obtain⟨u,rfl,rx⟩:=vals1 r;cases rx;rcases h with ⟨hq,q⟩ | ⟨hq,q⟩
 ·obtain⟨its,r',pl,hz⟩:=I.list hq;have hlen:=r'.length;refine call_tuple_list pl.isList (fun h' kp=>?_) (by simp only[List.size_toArray] <;> omega);have I1:Inv X pins σ H { s with heap:=h' }:=I.kept (t':=s.toks) kp;have I2:Inv X pins σ (upd H h'.objs.size (.tup ys)) { s with heap:=h'.push { cls:=.type "tuple",data:=.seq its.toArray } }:=
   I1.laid (t':=s.toks) (fun b o e=>Heap.get?_push_of_some _ e) (Nat.le_refl _) (show cV X.prog X.w _ _ _ (.tup ys) from ⟨hz,its,r',IsTup.new _ _⟩)
  exact⟨.ref h'.objs.size,_,I2,rfl,q _ (I1.hok.fresh (Nat.le_refl _))⟩
 ·obtain⟨its,r',pl,hz⟩:=I.tuple hq;exact call_tuple_same pl ⟨.ref p,H,I,rfl,q⟩
def tyV (K:Fg0) (T:String) (x:V) (H:Hp):Prop:=match x with
 | .str _=>T="str"
 | .int _=>T="int"
 | .ref p=>(T="list"/\∃ xs,SqL K H p xs)\/(T="tuple"/\∃ o,K.lookup p=some o/\o.cls=.type "tuple"/\o.dict=none)\/
   (T="dict"/\((∃ kvs,H p=some (.dK kvs))\/∃ kvs,H p=some (.dT kvs)))\/(T="set"/\∃ S n,H p=some (.set S n))
 | _=>False
theorem JV {pins:Pn} {σ:St} {H:Hp} {s:Shared} {T:String} {x:V} {v:Value} (I:Inv X pins σ H s) (r:RelV x v) (ty:tyV X.K T x H) :
  s.TypeIs v T/\∀ a,v=.ref a->∃ ob,s.heap.get? a=some ob/\ob.dict=none:=by
 cases x with
 | str z=>
  obtain⟨t,rfl⟩:=r;cases (show T="str" from ty);exact⟨typeIs_str s z t,fun _ e=>nomatch e⟩
 | int i=>
  obtain⟨t,rfl⟩:=r;cases (show T="int" from ty);exact⟨typeIs_int s i t,fun _ e=>nomatch e⟩
 | ref p=>
  cases r;rcases ty with ⟨rfl,xs,hq⟩ | ⟨rfl,o,hk,hc,hd⟩ | ⟨rfl,hk⟩ | ⟨rfl,S,n,hk⟩
  ·obtain⟨its,_,pl,_⟩:=I.list hq;refine⟨pl.isList.typeIs,fun a e=>?_⟩;cases e;obtain⟨o,n,e,c,hd,_⟩:=pl;exact⟨o,e,hd⟩
  ·refine⟨⟨o,I.kIn p o hk,hc⟩,fun a e=>?_⟩;cases e;exact⟨o,I.kIn _ o hk,hd⟩
  ·have z:∃ o,s.heap.get? p=some o/\o.ExactDict:=by
    rcases hk with ⟨kvs,hk⟩ | ⟨kvs,hk⟩
    ·obtain⟨_,_,_,_,o,_,_,e,ex,_⟩:=I.hok p _ hk;exact⟨o,e,ex⟩
    ·obtain⟨_,_,_,_,o,_,_,e,ex,_⟩:=I.hok p _ hk;exact⟨o,e,ex⟩
   obtain⟨o,e,ex⟩:=z;refine⟨⟨o,e,ex.1⟩,fun a e2=>?_⟩;cases e2;exact⟨o,e,ex.2.1⟩
  ·obtain⟨o,_,_,_,e,ex,_⟩:=I.hok p _ hk;refine⟨⟨o,e,ex.1⟩,fun a e2=>?_⟩;cases e2;exact⟨o,e,ex.2.1⟩
 | _=>exact False.elim ty
def tBM (K:Fg0) (T:String) (r:V->List V->Hp->VK->Prop) (to:TE) (t:TA):TE:=fun σ H Q=>to σ H fun x H1=>tyV K T x H1/\t σ H1 fun xs H2=>r x xs H2 Q
variable {o e:Expr} {es:List Expr} {to:TE} {t:TA} {name:Str} {apos cpos:Pos} {T id:String} {r:V->List V->Hp->VK->Prop}
theorem Mf (pa:PlainAttrs T) (slot:Slot T name id) (hty:typeOf (.builtin id)=pure (.type "method_descriptor")) (hm:MtR X id r) (ho:PE X o to) (ha:PA X (e::es) t)
  (hbase:autoParam (attributeBase o name X.env (eval o X.env)=eval o X.env) r0)
  (hfew:((backTo cpos (starEach (e::es) X.env)).all (fun x=>!x.1) && (backToKw cpos (keywordEach [] X.env)).all (fun x=>x.1.isSome)
   && decide ((e::es).length + ([]:List Keyword).length + (if ([]:List Keyword).isEmpty then 0 else 1) < 30))=true:=by rfl)
  (hline:autoParam ((apos.endLine == cpos.line)=true) r0) (hs:autoParam (starEach (e::es) X.env=(false,eval e X.env)::starEach es X.env) r0) (hplain:autoParam ((backTo cpos (starEach es X.env)).any (·.1)=false) r0) :
  PE X (.Call (.Attribute o name apos) (e::es) [] cpos) (tBM X.K T r to t):=by
 intro pins s σ H Q I h;refine wpAny_Call_method_late hbase hfew hline rfl (thn (ho pins s σ H _ I h) fun v s1 Z=>?_);obtain⟨x,H1,I1,r1,ty,q1⟩:=Z;obtain⟨h1,h2⟩:=JV I1 r1 ty;refine⟨T,id,pa,slot,hty,h1,h2,?_⟩;have hA:=ha cpos pins s1 σ H1 _ I1 q1;rw[hs] at hA ⊢;refine Calls.callWith_builtin (by show (false || (backTo cpos (starEach es X.env)).any (·.1))=false;rw[hplain] <;> rfl) (Calls.evalArgs_plain ?_);exact thn hA fun us s2 ⟨vs,H2,I2,r2,q2⟩=>hm pins s2 σ H2 x vs v us Q I2 r1 r2 q2
end
def MtM (X:Cx) (id:String) (r:V->List V->Hp->VK->Prop):Prop:=
 ∀ (pins:Pn) (s:Shared) (σ:St) (H:Hp) (x:V) (xs:List V) (v:Value) (us:Lv0) (Q:VK),Inv X pins σ H s->RelV x v->Vals xs us->r x xs H Q->
  wpAny (model X.prog X.w) X.A (call (.builtin id) (v::us)) (EP X pins σ Q) X.xe s
theorem Vals.one {x:V} {us:Lv0} (h:Vals [x] us):∃ u,us=[u]/\RelV x u:=by
 cases h with
 | cons r t=>cases t;exact⟨_,rfl,r⟩
section
variable {X:Cx} {pins:Pn} {σ:St} {H:Hp} {s:Shared} {l b:Addr} {xs ys zs:List V}
theorem Inv.MD {its its':Lv0} {n:Nat} {f:Array Value->Array Value} {t':Nat} (I:Inv X pins σ H s) (hH:H l=some (.lst xs))
  (e:s.heap.get? l=some { cls:=.type "list",data:=.seq its.toArray n }) (hf:f its.toArray=its'.toArray) (hv:Vals ys its') (hz:ys.length<=sizeLine) :
  Inv X pins σ (upd H l (.lst ys)) { s with heap:=s.heap.update l (Obj.mapSeq f),toks:=t' }:=by
 have q:=PySem.IsL.update e f;rw[hf] at q;refine I.write (x:=l) (e:=l) (by rw[hH];exact trivial) (.inl rfl) (fun b' u hb hu=>(Heap.get?_update_other s.heap (Obj.mapSeq f) (Ne.symm hb)).trans hu) ⟨_,q⟩ ?_;exact⟨hz,its',_,hv,q⟩
theorem Inv.NK {its:Lv0} {t':Nat} (I:Inv X pins σ H s) (hv:Vals ys its) (hz:ys.length<=sizeLine) :
  Inv X pins σ (upd H s.heap.objs.size (.lst ys)) { s with heap:=s.heap.push { cls:=.type "list",data:=.seq its.toArray },toks:=t' }:=
 I.laid (fun _ _ q=>Heap.get?_push_of_some _ q) (Nat.le_refl _) ⟨hz,its,0,hv,Heap.get?_push_size _ rfl⟩
theorem Inv.fresh (I:Inv X pins σ H s):H s.heap.objs.size=none:=I.hok.fresh (Nat.le_refl _)
theorem Inv.Fe (I:Inv X pins σ H s) (hH:H l=some (.lst xs)):xs.length<=sizeLine/\∃ (its:Lv0) (n:Nat),Vals xs its/\xs.length=its.length/\s.heap.get? l=some { cls:=.type "list",data:=.seq its.toArray n }:=by
 obtain⟨z,its,n,r,e⟩:=I.hok l _ hH;exact⟨z,its,n,r,r.length,e⟩
theorem E6 {n:Nat} (h:n<=sizeLine):Builtin.List.listTooLong n=false:=by
 unfold Builtin.List.listTooLong;exact decide_eq_false (by omega)
end
section
variable {X:Cx}
def xf:V->List V->Hp->VK->Prop:=fun x vs H Q=>∃ l xs y,x=.ref l/\vs=[y]/\H l=some (.lst xs)/\xs.length < sizeLine/\Q .non (upd H l (.lst (xs++[y])))
theorem Di:MtM X "list.append" xf:=by
 intro pins s σ H x vs v us Q I rx rv h;obtain⟨l,xs,y,rfl,rfl,hH,hz,q⟩:=h;cases rx;obtain⟨u,rfl,ru⟩:=rv.one;obtain⟨z,its,n,r,hl,e⟩:=I.Fe hH;refine call_meets F.slot_list_append ⟨_,e,rfl⟩ F.entry_list_append (F.args_list_append_2 _ _) (PySem.list_append l its.toArray n u (by rw[List.size_toArray];omega)) ⟨e,?_⟩;refine⟨.non,_,I.MD (its':=its++[u]) hH e (by simp) (r.append (.cons ru .nil)) ?_,rfl,q⟩;rw[List.length_append,List.length_singleton];omega
def Hd:V->List V->Hp->VK->Prop:=fun x vs H Q=>∃ l b xs zs,x=.ref l/\vs=[.ref b]/\H l=some (.lst xs)/\H b=some (.lst zs)/\xs.length + zs.length<=sizeLine/\Q .non (upd H l (.lst (xs++zs)))
theorem Lw:MtM X "list.extend" Hd:=by
 intro pins s σ H x vs v us Q I rx rv h;obtain⟨l,b,xs,zs,rfl,rfl,hH,hB,hz,q⟩:=h;cases rx;obtain⟨u,rfl,ru⟩:=rv.one;cases ru;obtain⟨z,its,n,r,hl,e⟩:=I.Fe hH;obtain⟨z2,its2,n2,r2,hl2,e2⟩:=I.Fe hB;have hsz:its.toArray.size + its2.toArray.size<=sizeLine:=by rw[List.size_toArray,List.size_toArray];omega
 have hlong:¬ (!its.toArray.isEmpty && Builtin.List.listTooLong (its.toArray.size + its2.toArray.size))=true:=by
  rw[E6 hsz,Bool.and_false];exact Bool.false_ne_true
 refine call_meets F.slot_list_extend ⟨_,e,rfl⟩ F.entry_list_extend (F.args_list_extend_2 _ _)
  (AutoSeq1.list_extend_list_list_0 l its.toArray n b its2.toArray n2 hlong (by rw[List.size_toArray];omega) (by omega)) ⟨e,e2,?_⟩
 refine⟨.non,_,I.MD (its':=its++its2) hH e (by simp) (r.append r2) ?_,rfl,q⟩;rw[List.length_append];omega
def L1:R2:=fun x y H Q=>∃ l b xs zs,x=.ref l/\y=.ref b/\H l=some (.lst xs)/\H b=some (.lst zs)/\xs.length + zs.length<=sizeLine/\∀ p,H p=none->Q (.ref p) (upd H p (.lst (xs++zs)))
theorem KL:OpR X (binaryOp .Add) L1:=by
 intro pins s σ H x y v u Q I rx ry h;obtain⟨l,b,xs,zs,rfl,rfl,hH,hB,hz,q⟩:=h;cases rx;cases ry;obtain⟨z,its,n,r,hl,e⟩:=I.Fe hH;obtain⟨z2,its2,n2,r2,hl2,e2⟩:=I.Fe hB;refine PySem.P.add_list e e2 ?_ (by rw[List.size_toArray,List.size_toArray];omega);have ea:its.toArray++its2.toArray=(its++its2).toArray:=by simp
 rw[ea];exact⟨.ref _,_,I.NK (t':=s.toks) (r.append r2) (by rw[List.length_append];omega),rfl,q _ I.fresh⟩
end
section
variable {prog:Program} {w:World} {A:Around} {E:VS} {s:Shared}
end
section
variable {X:Cx}
end
section
variable {κ:Type} [DecidableEq κ]
end
section
variable {P:Program} {w:World} {H:Hp} {h:Heap} {a:Addr}
theorem LU {u:HO} (ok:HOk P w H h) (e:Rd H a u):cV P w H h a u:=e.ok ok
theorem M5 {kvs:List (Key×V)} (ok:HOk P w H h) (e:Rd H a (.dK kvs)):kvs.length<=sizeLine/\(a == sysModules)=false/\∃ vs,KV kvs vs/\h.DictOf (sy P w) a vs:=
 show cV P w H h a (.dK kvs) from LU ok e
theorem JF {kvs:List (Key×V)} (ok:HOk P w H h) (e:H a=some (.dK kvs)):kvs.length<=sizeLine/\(a == sysModules)=false/\∃ vs,KV kvs vs/\h.DictOf (sy P w) a vs:=M5 ok (.inl e)
end
section
variable {X:Cx} {pins:Pn} {σ:St} {H:Hp} {s:Shared} {a:Addr} {y v:V} {u r:Value} {o:Option V} {A:Around} {E:VS}
end
section
variable {X:Cx} {pins:Pn} {σ:St} {H:Hp} {s:Shared} {a:Addr} {kvs:List (Key×V)} {k:Key} {u:Value} {A:Around} {E:VS}
end
section
variable {X:Cx} {o i e value:Expr} {pos pos' tpos:Pos} {td ty tv:TE}
end
section
variable {X:Cx} {pos:Pos}
end
section
variable {X:Cx} {pins:Pn} {σ:St} {H:Hp} {s:Shared} {a:Addr} {y d:V} {u r:Value} {o:Option V} {A:Around} {E:VS}
end
section
variable {X:Cx} {o e f:Expr} {apos cpos:Pos} {td ty tx:TE}
end
section
variable {X:Cx} {pins:Pn} {σ:St} {H:Hp} {s:Shared} {a:Addr} {kvs:List (Key×V)} {A:Around} {E:VS}
end
section
variable {X:Cx} {pins:Pn} {σ:St} {H:Hp} {s:Shared} {a:Addr} {y:V} {u:Value} {A:Around} {E:VS}
end
end L2
namespace Att
open PySem PySem.W PySem.Calls PyProof.Rows
theorem rQ {P:Params} {h:Heap}:∀ (ns:Li0) (vs:Lv0),WellAll P h vs (ns.map WData.int)->IntsAre vs ns:=by
 intro ns
 induction ns with
 | nil=>
  intro vs w;rw[List.map_nil] at w;cases w;exact .nil
 | cons n ns ih=>
  intro vs w;rw[List.map_cons] at w;cases w with
  | cons a b=>
   cases a;exact .cons _ _ (ih _ b)
theorem CQ {l:OpenLaw} {n:Nat} (hn:l.most=some n) {P:Params} {h:Heap} {args:List WData} {vals:Lv0}
  (hpre:l.row.toRowW.claim.pre args=true) (hwl:WellAll P h vals args) :
  ∃ a vs ns,vals=[Value.ref a]/\args=[WData.list (ns.map WData.int)]/\h.get? a=some { cls:=.type "list",data:=.seq vs.toArray }/\IntsAre vs ns/\ns.length<=n:=by
 have hsh:WShape.hasAll [] args [.list .int]=true:=(pre_splitW hpre).1;have hc:l.pre.holds [] { args:=args }=true:=(pre_splitW hpre).2;obtain⟨d,r,rfl,h1,h2⟩:=hasAllW_cons hsh;obtain rfl:=hasAllW_nil h2;obtain⟨xs,rfl,h3⟩:=hasW_list h1;obtain⟨ns,rfl⟩:=items_int h3;have hlen:ns.length<=n:=by
  unfold OpenLaw.pre at hc;have h4:(WTm.not (.lt (.lit (.int (n:Int))) (.len (.arg 0)))).holds [] { args:=[.list (ns.map .int)] }=true:=by
   have h4:=(holds_andW hc).1;rw[hn] at h4;exact h4
  have h5:=condW_of h4 (w_not (w_lt w_lit (w_len_list (w_arg rfl))));rw[lM0] at h5;refine Nat.le_of_not_lt fun q=>?_;have q':(n:Int) < ((ns.length:Nat):Int):=by omega
  first
   | (rw[decide_eq_true q'] at h5;exact absurd h5 (by decide))
   | (simp at h5;omega)
 cases hwl with
 | cons w1 w2=>
  cases w2;cases w1 with
  | list ho hall=>exact⟨_,_,ns,rfl,rfl,ho,rQ ns _ hall,hlen⟩
theorem C1 (l:OpenLaw) (args:List WData):l.row.toRowW.claim.post args (.bool true) args=true:=
 postW_of (r:=l.row.toRowW) (X:=(true == true))
  (show WShape.has [] (.bool true) .bool=true by first | rfl | decide | simp [WShape.has,WShape.arms,WShape.armsAll])
  (show (WTm.eq .res (.lit (.bool true))).value [] { args:=args,res:=some (.bool true),after:=args }=some (.bool (true == true)) from w_eq_bool (w_res rfl) w_lit) rfl
theorem z_ {l:OpenLaw} {n:Nat} {q:Program} {loose:Ls0} {XP:(SV)->Heap->Prop} {YP:World->Heap->Prop} {d:DefRec}
  (hn:l.most=some n) (hdf:d.params.defaults=[])
  (call:∀ (w:World) (s₀ s₁:Shared) (mg mb:SV) (fa:Addr) (o:Obj) (pm cd doc:Value) (a:Addr) (vs:Lv0) (ns:Li0),
   Ground q loose [] XP w s₀ mg mb s₁.heap->YP w s₁.heap->
   s₁.heap.get? fa=some o->o.data=.func (docDef d.name d.params d.body d.scope pm cd doc)->s₁.heap.CodeRec cd d.name->mg d.name=some (.ref fa)->
   s₁.heap.get? a=some { cls:=.type "list",data:=.seq vs.toArray }->IntsAre vs ns->ns.length<=n->s₁.gens=#[]->
   codeAny (model l.prog w) callerA (.call (.ref fa) ⟨[.ref a],[]⟩) (fun r s'=>r=.ok (.ret (.bool true))/\OldK s₁.heap s'.heap/\s'.os=s₁.os/\AllBare s'.gens) s₁) :
  WalkO q loose XP YP l.row.toRowW d [] (fun f vs=>PySem.call f vs):=by
 intro w s₀ s₁ mg mb G Y fa o pm cd doc dV kV ho hd hcd hD hmg hg args vals as hpre hlay hrd hwl hlo;obtain rfl:dV=.none:=Dflts.none hD hdf;obtain rfl:kV=.none:=Dflts.noKw hD;obtain⟨a,vs,ns,rfl,rfl,hobj,hints,hlen⟩:=CQ hn hpre hwl;refine enter_call (codeAny_mono (call w s₀ s₁ mg mb fa o pm cd doc a vs ns G Y ho (fd_plain hd) hcd hmg hobj hints hlen hg) fun r s' hq=>?_);obtain⟨rfl,h2,h3,h4⟩:=hq;exact⟨.inl ⟨.bool true,.bool true,[],rfl,fun _=>rfl,.bool true,C1 l _,fun _=>⟨List.Pairwise.nil,fun _ hm=>(nomatch hm)⟩⟩,h2,h3,h4⟩
section
variable {prog:Program} {w:World} {A:Around} {E:VS} {s:Shared} {K:Frag}
end
end Att
namespace L2
open PySem PySem.Spec PyProof.Rows
theorem vD:∀ {vs:Lv0} {ns:Li0},IntsAre vs ns->Vals (ns.map V.int) vs
 | _,_,.nil=>.nil
 | _,_,.cons n t h=>.cons ⟨t,rfl⟩ (vD h)
def Ls (H:Hp):Prop:=∀ b,H b=none\/(∃ o xs,H b=some (.frz o (.lst xs)))\/∃ ps,H b=some (.tbl ps)
noncomputable def inClass (s:Stmt) (j:Nat):Stmt:=match s with
 | .ClassDef _ _ _ body _ _ _ _ _ _ _=>body.getD j (.Pass ⟨0,0,0,0⟩)
 | _=>.Pass ⟨0,0,0,0⟩
noncomputable def gi (s:Stmt):Arguments:=match s with
 | .FunctionDef _ a _ _ _ _ _ _ _ _=>a
 | _=>{ posonlyargs:=[],args:=[],vararg:=none,kwonlyargs:=[],kw_defaults:=[],kwarg:=none,defaults:=[] }
noncomputable def c7 (s:Stmt):List Stmt:=match s with
 | .FunctionDef _ _ b _ _ _ _ _ _ _=>b
 | _=>[]
noncomputable def ae (s:Stmt):Scope:=match s with
 | .FunctionDef _ _ _ _ _ _ sc _ _ _=>sc
 | _=>{ kind:=.function,names:=[],isGenerator:=false,isCoroutine:=false }
abbrev CX0:CXT:=fun _ _ _ _ _ _=>False
abbrev E0:XK:=fun _ _ _=>False
theorem qE {X:Cx}:Passes CX0 X E0:=fun _ _ _ _ _ _ _ h=>h.elim
structure Fun (K:Fg0) (x qual:Str) (st:Stmt) (f:Addr) (fd:FuncData):Prop where
 ex:∃ (oc:Value) (od:Option Addr) (kV doc pm:Value) (an:Option Addr) (cdv ct:Value) (osl:Array (Option Value)),
  fd=PySem.W.fnOf x qual (gi st) (c7 st) (ae st) .none kV doc pm an cdv ct/\K.lookup f=some ⟨oc,od,.func fd,osl⟩/\PySem.W.codeIn K cdv qual=true
 kp:PySem.W.keepIn K (.ref f)=true
section
variable {P:Program} {w:World} {K:Fg0} {mg:SV} {base:Heap}
theorem Fun.ok {x qual:Str} {st:Stmt} {f:Addr} {fd:FuncData} {N ps:Ls0} {k:Nat} {sp:Sp} (F:Fun K x qual st f fd) (S:aq N ps (ae st)) (len:∀ vs H Q E,sp vs H Q E->vs.length=ps.length)
  (hbody:∀ (cdv:Value) (A:Around) (outer:List Env) (s:Shared) (H:Hp) (vs:List V) (Q:VK) (E:XK),bN k (A.deeper (envOfC qual (ae st) s.heap.objs.size f cdv))->sp vs H Q E->
   ∃ t,PSs (yk CX0 P w K mg base N qual (ae st) f cdv A outer s H E).nox (c7 st) t/\t { nx:=fun _ H'=>Q .non H',rt:=Q } (start N vs) H):aG P w K mg base CX0 (k + 1) f fd ps sp:=by
 obtain⟨oc,od,kV,doc,pm,an,cdv,ct,osl,rfl,lk,hcd⟩:=F.ex;refine JA lk hcd S len fun A outer s H vs Q E hr hsp=>?_;obtain⟨t,h,q⟩:=hbody cdv A outer s H vs Q E hr hsp;exact⟨t,h.nox,q⟩
theorem Fun.binds {x qual:Str} {st:Stmt} {f:Addr} {fd:FuncData} {ps:Ls0} (F:Fun K x qual st f fd)
  (h:∀ (kV doc pm:Value) (an:Option Addr) (cdv ct:Value) (us:Lv0),us.length=ps.length->bindArgs (PySem.W.fnOf x qual (gi st) (c7 st) (ae st) .none kV doc pm an cdv ct) ⟨us,[]⟩=pure (ps.zip us)):Binds K fd ps []:=by
 obtain⟨oc,od,kV,doc,pm,an,cdv,ct,osl,rfl,lk,hcd⟩:=F.ex;exact .all (h kV doc pm an cdv ct)
theorem xZ {x qual:Str} {st:Stmt} {f:Addr} {oc:Value} {od an:Option Addr} {osl:Array (Option Value)} {kV doc pm cdv ct:Value} (l:K.lookup f=some ⟨oc,od,.func (PySem.W.fnOf x qual (gi st) (c7 st) (ae st) .none kV doc pm an cdv ct),osl⟩)
  (c:PySem.W.codeIn K cdv qual=true) (k:PySem.W.keepIn K (.ref f)=true):Fun K x qual st f (PySem.W.fnOf x qual (gi st) (c7 st) (ae st) .none kV doc pm an cdv ct):=⟨⟨oc,od,kV,doc,pm,an,cdv,ct,osl,rfl,l,c⟩,k⟩
end
section
variable {X:Cx}
end
theorem Dr {A B:Prop} (h:B):if false=true then A else B:=by
 rw[if_neg Bool.false_ne_true];exact h
theorem Dq {A B:Prop} (h:A):if true=true then A else B:=by
 rw[if_pos rfl];exact h
def aB (H H':Hp):Prop:=∀ b o,H b=some o->H' b=some o
theorem aB.refl (H:Hp):aB H H:=fun _ _ h=>h
theorem aB.trans {H H1 H2:Hp} (a:aB H H1) (b:aB H1 H2):aB H H2:=fun c o h=>b c o (a c o h)
theorem aB.free {H H':Hp} (e:aB H H') {l:Addr} (h:H' l=Option.none):H l=Option.none:=by
 cases q:H l with
 | none=>rfl
 | some o=>
  rw[e l o q] at h;cases h
theorem aB.seq {K:Fg0} {H H':Hp} {a:Addr} {xs:List V} (e:aB H H') (h:SqL K H a xs):SqL K H' a xs:=by
 rcases h with (h | ⟨o,h⟩) | h
 ·exact .inl (.inl (e _ _ h))
 ·exact .inl (.inr ⟨o,e _ _ h⟩)
 ·exact .inr h
section
variable {κ:Type} [DecidableEq κ]
end
noncomputable def takes (cells:List (Str×Addr)):List (Str×NameKind)->List (Str×Addr)->List (Str×Addr)
 | [],acc=>acc
 | (n,k)::r,acc=>takes cells r (if k=NameKind.free then (n,(cells.lookup n).getD 0)::acc else acc)
theorem vp {sc:Scope} {env:Env} (h:∀ y∈sc.names,y.2=.free->∃ c,env.cells.lookup y.1=some c):closureFor sc env=pure (takes env.cells sc.names []):=by
 have go:∀ (l:List (Str×NameKind)) (acc:List (Str×Addr)),(∀ y∈l,y.2=.free->∃ c,env.cells.lookup y.1=some c)->
   (forIn l acc (fun (x:Str×NameKind) (cs:List (Str×Addr))=>match x with
    | (name,kind)=>if (kind == NameKind.free)=true then do let c <- cellOf env name;pure (ForInStep.yield ((name,c)::cs)) else pure (ForInStep.yield cs)):Sem (List (Str×Addr)))=pure (takes env.cells l acc):=by
  intro l
  induction l with
  | nil=>intro acc _;rfl
  | cons x l ih=>
   intro acc hl;obtain⟨n,k⟩:=x;rw[List.forIn_cons];by_cases hk:k=NameKind.free
   ·subst hk;obtain⟨c,hc⟩:=hl (n,.free) List.mem_cons_self rfl;have hc':env.cells.lookup n=some c:=hc;have e1:cellOf env n=pure c:=by unfold cellOf;rw[hc']
    have e2:takes env.cells ((n,NameKind.free)::l) acc=takes env.cells l ((n,c)::acc):=by
     show takes env.cells l (if NameKind.free=NameKind.free then (n,(env.cells.lookup n).getD 0)::acc else acc)=_;rw[if_pos rfl,hc']
     rfl
    rw[e2,<- ih ((n,c)::acc) fun y hy=>hl y (List.mem_cons_of_mem _ hy)];show ((if (NameKind.free == NameKind.free)=true then (do let c <- cellOf env n;pure (ForInStep.yield ((n,c)::acc))) else pure (ForInStep.yield acc)) >>= _)=_;rw[if_pos (by decide),e1,pure_bind,pure_bind]
   ·have e2:takes env.cells ((n,k)::l) acc=takes env.cells l acc:=by
     show takes env.cells l (if k=NameKind.free then _ else acc)=_;rw[if_neg hk]
    have hb:(k == NameKind.free)=false:=by simpa using hk
    rw[e2,<- ih acc fun y hy=>hl y (List.mem_cons_of_mem _ hy)];show ((if (k == NameKind.free)=true then _ else pure (ForInStep.yield acc)) >>= _)=_;rw[hb,if_neg Bool.false_ne_true,pure_bind]
 have:=go sc.names [] h;unfold closureFor
 first
  | exact(congrArg (fun z=>z >>= fun cs=>pure cs) this).trans (pure_bind _ _)
  | exact this
  | simpa using this
theorem vE {cells:List (Str×Addr)} {n:Str} {c:Addr}:∀ (names:List (Str×NameKind)) (acc:List (Str×Addr)),(takes cells names acc).lookup n=some c->
  acc.lookup n=some c\/((n,NameKind.free)∈names/\c=(cells.lookup n).getD 0)
 | [],_,h=>.inl h
 | (m,k)::r,acc,h=>by
  rcases vE r _ h with q | ⟨q1,q2⟩
  ·by_cases hk:k=NameKind.free
   ·rw[if_pos hk] at q;subst hk;by_cases e:n=m
    ·subst e;rw[List.lookup_cons,beq_self_eq_true] at q;exact .inr ⟨List.mem_cons_self,(Option.some.inj q).symm⟩
    ·have:(n == m)=false:=by simpa using e
     rw[List.lookup_cons,this] at q;exact .inl q
   ·rw[if_neg hk] at q;exact .inl q
  ·exact .inr ⟨List.mem_cons_of_mem _ q1,q2⟩
theorem vF {cells:List (Str×Addr)} {n:Str}:∀ (names:List (Str×NameKind)) (acc:List (Str×Addr)),(acc.lookup n).isSome=true->((takes cells names acc).lookup n).isSome=true
 | [],_,h=>h
 | (m,k)::r,acc,h=>by
  refine vF r _ ?_;by_cases hk:k=NameKind.free
  ·rw[if_pos hk];cases e:n == m with
   | true=>rw[List.lookup_cons,e];rfl
   | false=>rw[List.lookup_cons,e];exact h
  ·rw[if_neg hk];exact h
theorem p4 {cells:List (Str×Addr)} {n:Str}:∀ (names:List (Str×NameKind)) (acc:List (Str×Addr)),(n,NameKind.free)∈names->((takes cells names acc).lookup n).isSome=true
 | [],_,h=>by simp at h
 | (m,k)::r,acc,h=>by
  rcases List.mem_cons.mp h with e | h
  ·cases e;refine vF r _ ?_;rw[if_pos rfl,List.lookup_cons,beq_self_eq_true]
   rfl
  ·exact p4 r _ h
structure Blk (N:Ls0) (osc sc:Scope) (Nc:Ls0) (fr:On):Prop where
 kind:sc.kind=.function
 own:∀ y∈sc.names,y.2=.cell->sc.names.lookup y.1=some .cell
 free:∀ y∈sc.names,y.2=.free->osc.names.lookup y.1=some .cell\/osc.names.lookup y.1=some .free
 locs:∀ y∈sc.names,y.2=.local->sc.names.lookup y.1=some .local
 nd:Nc.Nodup
 len:Nc.length=fr.length
 whence:∀ p∈Nc.zip fr,(p.2.all fun j=>decide (N[j]?=some p.1) && decide (sc.names.lookup p.1=some .free))=true
noncomputable abbrev bcl (cells:List (Str×Addr)) (sc:Scope) (C:Addr):List (Str×Addr):=cellsFrom (C + 1) sc.names (takes cells sc.names [])
theorem Cs {x:Str} {c:Addr}:∀ (names:List (Str×NameKind)) (n:Nat) (acc:List (Str×Addr)),(cellsFrom n names acc).lookup x=some c->acc.lookup x=some c\/(n<=c/\(x,NameKind.cell)∈names)
 | [],_,_,h=>.inl h
 | (y,k)::r,n,acc,h=>by
  unfold cellsFrom at h;split at h
  ·rename_i hk;have ek:k=NameKind.cell:=by simpa using hk
   subst ek;rcases Cs r _ _ h with q | ⟨q1,q2⟩
   ·rw[List.lookup_cons] at q;cases hx:x == y with
    | true=>
     rw[hx] at q;cases q;rw[beq_iff_eq.mp hx];exact .inr ⟨Nat.le_refl _,List.mem_cons_self⟩
    | false=>rw[hx] at q;exact .inl q
   ·exact .inr ⟨Nat.le_of_succ_le q1,List.mem_cons_of_mem _ q2⟩
  ·rcases Cs r _ _ h with q | ⟨q1,q2⟩
   ·exact .inl q
   ·exact .inr ⟨q1,List.mem_cons_of_mem _ q2⟩
theorem Bi {x:Str} {c:Addr}:∀ (names:List (Str×NameKind)) (n:Nat) (acc:List (Str×Addr)),(x,NameKind.cell)∈names->(cellsFrom n names acc).lookup x=some c->n<=c
 | [],_,_,m,_=>nomatch m
 | (y,k)::r,n,acc,m,h=>by
  unfold cellsFrom at h;by_cases hr:(x,NameKind.cell)∈r
  ·split at h
   ·exact Nat.le_of_succ_le (Bi r _ _ hr h)
   ·exact Bi r _ _ hr h
  ·have e:(x,NameKind.cell)=(y,k):=(List.mem_cons.mp m).resolve_right hr;cases e;rw[if_pos (by rfl)] at h;rcases Cs r _ _ h with q | ⟨q1,_⟩
   ·rw[List.lookup_cons,beq_self_eq_true] at q;cases q;exact Nat.le_refl _
   ·exact Nat.le_of_succ_le q1
theorem Bh {x:Str}:∀ (names:List (Str×NameKind)) (n:Nat) (acc:List (Str×Addr)),(x,NameKind.cell)∉names->(cellsFrom n names acc).lookup x=acc.lookup x
 | [],_,_,_=>rfl
 | (y,k)::r,n,acc,m=>by
  unfold cellsFrom;have hr:(x,NameKind.cell)∉r:=fun z=>m (List.mem_cons_of_mem _ z);split
  ·rename_i hk;have ek:k=NameKind.cell:=by simpa using hk
   subst ek;rw[Bh r _ _ hr,List.lookup_cons];have:(x == y)=false:=by
    cases hx:x == y with
    | false=>rfl
    | true=>exact absurd (by rw[beq_iff_eq.mp hx];exact List.mem_cons_self) m
   rw[this]
  ·exact Bh r _ _ hr
theorem Bj:∀ (names:List (Str×NameKind)) (n:Nat) (acc:List (Str×Addr)),(∀ x y c,acc.lookup x=some c->acc.lookup y=some c->x=y)->(∀ x c,acc.lookup x=some c->c < n)->
  ∀ x y c,(cellsFrom n names acc).lookup x=some c->(cellsFrom n names acc).lookup y=some c->x=y
 | [],_,_,h,_=>h
 | (z,k)::r,n,acc,h,lt=>by
  unfold cellsFrom;split
  ·refine Bj r (n + 1) ((z,n)::acc) (fun x y c h1 h2=>?_) fun x c h1=>?_
   ·rw[List.lookup_cons] at h1 h2;cases hx:x == z with
    | true=>
     cases hy:y == z with
     | true=>rw[beq_iff_eq.mp hx,beq_iff_eq.mp hy]
     | false=>
      rw[hx] at h1;rw[hy] at h2;cases h1;exact absurd (lt y n h2) (Nat.lt_irrefl _)
    | false=>
     cases hy:y == z with
     | true=>
      rw[hx] at h1;rw[hy] at h2;cases h2;exact absurd (lt x n h1) (Nat.lt_irrefl _)
     | false=>rw[hx] at h1;rw[hy] at h2;exact h x y c h1 h2
   ·rw[List.lookup_cons] at h1;cases hx:x == z with
    | true=>rw[hx] at h1;cases h1;exact Nat.lt_succ_self _
    | false=>rw[hx] at h1;exact Nat.lt_succ_of_lt (lt x c h1)
  ·exact Bj r n acc h lt
theorem vX {M:Model} {A:Around} {E:VS} {s:Shared} {sc:Scope} {g:Addr} {cl:List (Str×Addr)} {qual:Str} {oe:Env} {Q:Env->Shared->Prop}
  (hQ:∀ h':Heap,h'.Ns s.heap.objs.size (fun _=>none)->(∀ b o,s.heap.get? b=some o->h'.get? b=some o)->(∀ n c,(cellsFrom (s.heap.objs.size + 1) sc.names cl).lookup n=some c->cl.lookup n=some c\/h'.IsCell c none)->
   Q { scope:=sc,locals:=s.heap.objs.size,globals:=g,cells:=cellsFrom (s.heap.objs.size + 1) sc.names cl,qual:=qual,func:=none,code:=oe.code,frame:=oe.frame,builtins:=oe.builtins } { s with heap:=h' }) :
  wpAny M A (newFunctionEnv sc g cl [] qual none .none (some oe)) Q E s:=by
 simp only[newFunctionEnv,Option.isSome_some,if_true];refine wpAny_bind (wpAny_alloc ?_);refine wpAny_bind (wpAny_layCells _ (fun name kind cells=>by cases hkc:kind == NameKind.cell <;> simp [hkc]) _ _ _ _ ?_);have go:∀ (names:List (Str×NameKind)) (h:Heap) (acc:List (Str×Addr)) (P:Str->Addr->Prop),(∀ n c,acc.lookup n=some c->P n c\/h.IsCell c none)->∀ n c,(cellsFrom h.objs.size names acc).lookup n=some c->P n c\/(pushCells h names).IsCell c none:=by
  intro names
  induction names with
  | nil=>intro h acc P x;exact x
  | cons p r ih=>
   intro h acc P x;obtain⟨y,k⟩:=p;unfold cellsFrom pushCells;split
   ·have:=ih (h.push { cls:=.type "cell",data:=.cell none }) ((y,h.objs.size)::acc) P fun n c e=>by
     rw[List.lookup_cons] at e;cases hx:n == y with
     | true=>rw[hx] at e;cases e;exact .inr ⟨_,Heap.get?_push_size _ rfl,rfl⟩
     | false=>
      rw[hx] at e;rcases x n c e with q | q
      ·exact .inl q
      ·exact .inr (q.keeps fun b o e=>Heap.get?_push_of_some _ e)
    rwa [Heap.size_push] at this
   ·exact ih h acc P x
 have ok:=go sc.names (s.heap.push { cls:=.type "dict",data:=.dict #[] }) cl (fun n c=>cl.lookup n=some c) fun n c e=>.inl e;rw[Heap.size_push] at ok;rw[show ({ s with heap:=s.heap.push { cls:=.type "dict",data:=.dict #[] } }:Shared).heap.objs.size=s.heap.objs.size + 1 from Heap.size_push ..];refine wpAny_bind ?_;rw[List.forIn_nil];exact wpAny_pure (wpAny_pure (hQ _ ((Heap.Ns.new s.heap (.type "dict")).keeps (pushCells_keeps _ _)) (fun b o e=>pushCells_keeps _ _ b o (Heap.get?_push_of_some _ e)) ok))
noncomputable abbrev br (X:Cx) (sc:Scope) (Nc:Ls0) (s₀:Shared) (H₀:Hp) (C:Addr) (ex:La0) (pn:Pn):Cx where
 prog:=X.prog
 w:=X.w
 K:=X.K
 mg:=X.mg
 base:=X.base
 A:=X.A
 N:=Nc
 s₀:=s₀
 H₀:=H₀
 env:=compEnvC sc (bcl X.env.cells sc C) C X.env
 outer:=X.stack
 stack:=X.stack
 ex:=ex
 fn:=fun x=>sc.names.lookup x == some .cell
 calm:=X.calm
 pn:=pn
 xe:=fun _ _=>False
noncomputable def lP (fr:On) (σ:St):St:=fr.map fun o=>o.bind fun j=>(σ[j]?).join
def JQ (J:It) (g:TG) (te:TE) (σ0:St) (H1:Hp) (Q:VK):Prop:=
 ∃ W:Nat->Nat->List V->St->Hp->Prop,(∃ m,W 0 m [] σ0 H1)/\∀ i m ys σc H,W i m ys σc H->ys.length < sizeLine/\
  ((J.stop i H/\∀ l,H l=none->Q (.ref l) (upd H l (.lst ys)))\/
   (J.go i H/\∀ x H',J.yld i H x H'->g x σc H' fun σ2 H2=>∃ N:VK,(∀ y H3,N y H3->∃ m',m' < m/\W (i + 1) m' (ys++[y]) σ2 H3)/\te σ2 H2 N))
def sY (fr:On) (wi:TI) (g:TG) (te:TE):TE:=fun σ H Q=>wi σ H fun J H1=>JQ J g te (lP fr σ) H1 Q
theorem kK {sc:Scope} {env:Env} {x:Str} {k:NameKind} (h:(relabel sc env).names.lookup x=some k):sc.names.lookup x=some k\/(k=.cell/\sc.names.lookup x=some .free):=by
 have go:∀ l:List (Str×NameKind),(l.map fun (n,k)=>if (k == NameKind.free && env.scope.kind == .function && env.kindOf n == some .cell) then (n,NameKind.cell) else (n,k)).lookup x=some k->l.lookup x=some k\/(k=.cell/\l.lookup x=some .free):=by
  intro l
  induction l with
  | nil=>intro h;simp at h
  | cons p r ih=>
   intro h;obtain⟨n,k'⟩:=p;rw[List.map_cons] at h;by_cases hc:(k' == NameKind.free && env.scope.kind == .function && env.kindOf n == some .cell)=true
   ·have h2:List.lookup x ((n,NameKind.cell)::r.map fun (n,k)=>if (k == NameKind.free && env.scope.kind == .function && env.kindOf n == some .cell) then (n,NameKind.cell) else (n,k))=some k:=by
     have h3:=h;simp only[hc,if_true] at h3;exact h3
    have hk:k'=.free:=by
     simp only[Bool.and_eq_true] at hc;simpa using hc.1.1
    subst hk;cases hx:x == n with
    | true=>
     rw[List.lookup_cons,hx] at h2;rw[List.lookup_cons,hx];cases h2;exact .inr ⟨rfl,rfl⟩
    | false=>
     rw[List.lookup_cons,hx] at h2;rw[List.lookup_cons,hx];exact ih h2
   ·have hc':(k' == NameKind.free && env.scope.kind == .function && env.kindOf n == some .cell)=false:=by simpa using hc
    have h2:List.lookup x ((n,k')::r.map fun (n,k)=>if (k == NameKind.free && env.scope.kind == .function && env.kindOf n == some .cell) then (n,NameKind.cell) else (n,k))=some k:=by
     have h3:=h;simp only[hc',Bool.false_eq_true,if_false] at h3;exact h3
    cases hx:x == n with
    | true=>
     rw[List.lookup_cons,hx] at h2;rw[List.lookup_cons,hx];exact .inl h2
    | false=>
     rw[List.lookup_cons,hx] at h2;rw[List.lookup_cons,hx];exact ih h2
 exact go _ h
theorem xc {sc:Scope} {env:Env} {x:Str} (h:sc.names.lookup x=some .free):(relabel sc env).names.lookup x=some .cell\/(relabel sc env).names.lookup x=some .free:=by
 have go:∀ l:List (Str×NameKind),l.lookup x=some .free->(l.map fun (n,k)=>if (k == NameKind.free && env.scope.kind == .function && env.kindOf n == some .cell) then (n,NameKind.cell) else (n,k)).lookup x=some .cell\/(l.map fun (n,k)=>if (k == NameKind.free && env.scope.kind == .function && env.kindOf n == some .cell) then (n,NameKind.cell) else (n,k)).lookup x=some .free:=by
  intro l
  induction l with
  | nil=>intro h;simp at h
  | cons p r ih=>
   intro h;obtain⟨n,k'⟩:=p;rw[List.map_cons];by_cases hc:(k' == NameKind.free && env.scope.kind == .function && env.kindOf n == some .cell)=true
   ·simp only[hc,if_true];cases hx:x == n with
    | true=>left;simp [List.lookup_cons,hx]
    | false=>
     rw[List.lookup_cons,hx] at h;simp only[List.lookup_cons,hx];exact ih h
   ·have hc':(k' == NameKind.free && env.scope.kind == .function && env.kindOf n == some .cell)=false:=by simpa using hc
    simp only[hc',Bool.false_eq_true,if_false];cases hx:x == n with
    | true=>
     rw[List.lookup_cons,hx] at h
     right
     simp only[List.lookup_cons,hx];exact h
    | false=>
     rw[List.lookup_cons,hx] at h;simp only[List.lookup_cons,hx];exact ih h
 exact go _ h
section
variable {X:Cx} {pins:Pn} {σ:St}
theorem gu {sc:Scope} {Nc:Ls0} {fr:On} (B:Blk X.N X.env.scope sc Nc fr) (ok:X.Ok) {n:Str} {c:Addr} (h:(takes X.env.cells sc.names []).lookup n=some c):X.env.cells.lookup n=some c:=by
 rcases vE _ _ h with q | ⟨q1,q2⟩
 ·simp at q
 ·obtain⟨c',hc'⟩:=ok.has n (B.free _ q1 rfl);rw[hc'] at q2;rw[hc',q2]
  rfl
theorem wD {sc:Scope} {Nc:Ls0} {fr:On} {C:Addr} (B:Blk X.N X.env.scope sc Nc fr) (ok:X.Ok) {n:Str} {c:Addr} (h:(bcl X.env.cells sc C).lookup n=some c):X.env.cells.lookup n=some c\/C < c:=by
 rcases Cs _ _ _ h with q | ⟨q,_⟩
 ·exact .inl (gu B ok q)
 ·exact .inr q
theorem eu {n:Str} {k:NameKind}:∀ {l:List (Str×NameKind)},l.lookup n=some k->(n,k)∈l:=fun h=>PySem.mem_of_lookup h
theorem Gq {sc:Scope} {Nc:Ls0} {fr:On} (B:Blk X.N X.env.scope sc Nc fr) {s₀:Shared} {H₀:Hp} {C:Addr} {ex:La0} {pn:Pn} (I:Inv X pins σ H₀ s₀) (hC:s₀.heap.objs.size<=C)
  (hex:∀ b∈ex,b < s₀.heap.objs.size/\b∉X.fs/\b≠X.env.locals/\(∀ x c,X.env.cells.lookup x=some c->c≠b)/\∀ o,X.base.get? b≠some o):(br X sc Nc s₀ H₀ C ex pn).Ok where
 mod:=I.ok.mod
 kind:=B.kind
 glob:=I.ok.glob
 blt:=I.ok.blt
 above:=hC
 inj:=Bj _ _ _ (fun x y c h1 h2=>I.ok.inj x y c (gu B I.ok h1) (gu B I.ok h2)) fun x c h=>by
  obtain⟨v,o,e,_⟩:=I.cell x c (gu B I.ok h);exact Nat.lt_succ_of_lt (Nat.lt_of_lt_of_le (Heap.lt_size e) hC)
 has:=fun x hx=>by
  have hf:sc.names.lookup x=some .cell\/sc.names.lookup x=some .free:=by
   rcases hx with hx | hx
   ·rcases kK hx with q | ⟨_,q⟩
    ·exact .inl q
    ·exact .inr q
   ·rcases kK hx with q | ⟨_,q⟩
    ·exact .inr q
    ·exact .inr q
  refine Option.isSome_iff_exists.mp (PySem.W.cellsFrom_some _ _ _ ?_);rcases hf with q | q
  ·exact .inl q
  ·exact .inr (p4 _ _ (eu q))
 cab:=fun x c h e=>by
  have h':sc.names.lookup x=some .cell:=by simpa using h
  exact Nat.le_trans hC (Nat.le_of_succ_le (Bi _ _ _ (eu h') e))
 hd:=I.ok.hd
 frames:=I.ok.frames
 stk:=.inl rfl
 exf:=fun b hb=>⟨fun e=>by have:=(hex b hb).1;rw[e] at this;exact absurd (Nat.lt_of_lt_of_le this hC) (Nat.lt_irrefl _),fun x c h=>by
  rcases wD B I.ok h with q | q
  ·exact(hex b hb).2.2.2.1 x c q
  ·exact fun z=>absurd (Nat.lt_trans (Nat.lt_of_lt_of_le (hex b hb).1 hC) q) (by rw[z];exact Nat.lt_irrefl _)⟩
 bs:=fun b o e=>I.bs b o e
 bsz:=Nat.le_trans I.ok.bsz I.sz
 noex:=fun b o e hb=>(hex b hb).2.2.2.2 o e
 exfs:=fun b hb hf=>by
  rcases List.mem_cons.mp (I.tj b hf) with e | e
  ·exact(hex b hb).2.2.1 e
  ·exact(hex b hb).2.1 e
 nI:=I.stack
 frf:=fun b hb=>I.r9 b hb
 tb:=I.tb
end
section
variable {X:Cx}
noncomputable abbrev bH (us:Lv0) (n:Nat):Obj:={ cls:=.type "list",data:=.seq us.toArray n }
theorem A0 {α:Type} {Nc:Ls0} {fr:List α} {i:Nat} {x:Str} {o:α} (h1:Nc[i]?=some x) (h2:fr[i]?=some o):(x,o)∈Nc.zip fr:=by
 have h3:(Nc.zip fr)[i]?=some (x,o):=by
  rw[List.getElem?_zip_eq_some];exact⟨h1,h2⟩
 exact List.mem_of_getElem? h3
theorem Cw {pins:Pn} {σ:St} {sc:Scope} {Nc:Ls0} {fr:On} (B:Blk X.N X.env.scope sc Nc fr) {s₀ s₄:Shared} {H₀:Hp} {C D:Addr} {o:Obj} {ex:La0} {mC:SV}
  (ok:(br X sc Nc s₀ H₀ C ex (X.pn++pins)).Ok) (I:Inv X pins σ H₀ s₀) (hC:s₀.heap.objs.size<=C) (ho:s₄.os=s₀.os) (hg:s₄.gens=s₀.gens) (hk:∀ b u,s₀.heap.get? b=some u->s₄.heap.get? b=some u) (hn:s₄.heap.Ns C mC)
  (hw:∀ x c,(bcl X.env.cells sc C).lookup x=some c->(takes X.env.cells sc.names []).lookup x=some c\/s₄.heap.IsCell c none) (hD:s₀.heap.get? D=some o) (hDH:H₀ D=none) (hDL:D≠X.env.locals) (hDf:D∉X.fs) (hDc:∀ v,o.data≠.cell v) :
  Inv (br X sc Nc s₀ H₀ C ex (X.pn++pins)) [(D,o)] (lP fr σ) H₀ s₄:=by
 have stk:∀ b,b≠X.env.locals->b∉X.fs->b∉frs X.stack:=fun b h1 h2 h3=>by
  rcases List.mem_cons.mp (I.tj b h3) with e | e
  ·exact h1 e
  ·exact h2 e
 have ltC:∀ {b:Addr} {u:Obj},s₀.heap.get? b=some u->b≠C:=fun e z=>absurd (Nat.lt_of_lt_of_le (Heap.lt_size e) (by rw[z];exact hC)) (Nat.lt_irrefl _);refine⟨ok,ho,by rw[hg];exact I.bare,Un.kept hk,⟨mC,hn,fun i x v h1 h2 h3=>?_⟩,fun x c h=>?_,I.hok.fresh hC,fun x c h=>?_,fun p hp=>?_,I.hok.kept hk,?_⟩
 ·have h2':(fr.map fun o=>o.bind fun j=>(σ[j]?).join)[i]?=some (some v):=h2;rw[List.getElem?_map] at h2';cases ef:fr[i]? with
  | none=>rw[ef] at h2';cases h2'
  | some oj=>
   rw[ef] at h2';have h4:(oj.bind fun j=>(σ[j]?).join)=some v:=Option.some.inj h2';cases oj with
   | none=>cases h4
   | some j=>
    have hz:=B.whence _ (A0 h1 ef);have hz':(decide (X.N[j]?=some x) && decide (sc.names.lookup x=some .free))=true:=hz;rw[Bool.and_eq_true] at hz';have e1:X.N[j]?=some x:=of_decide_eq_true hz'.1;have e2:sc.names.lookup x=some .free:=of_decide_eq_true hz'.2;have h5:σ[j]?=some (some v):=by
     have h6:(σ[j]?).join=some v:=h4;cases e3:σ[j]? with
     | none=>rw[e3] at h6;cases h6
     | some y=>rw[e3] at h6;exact congrArg some h6
    have hkd:=B.free _ (eu e2) rfl;obtain⟨m,hm,hl⟩:=I.loc;have vis:Vis X.env.scope x:=by rcases hkd with k | k;exact .inr (.inl k);exact .inr (.inr k)
    obtain⟨u,r,l⟩:=hl j x v e1 h5 vis;refine⟨u,r,.inr ⟨xc e2,?_⟩⟩;rcases l with ⟨k,_⟩ | ⟨_,c,hc,hcell⟩
    ·have k':X.env.scope.names.lookup x=some .local:=k;rcases hkd with q | q
     ·rw[q] at k';cases k'
     ·rw[q] at k';cases k'
    ·obtain⟨c',hc'⟩:=Option.isSome_iff_exists.mp (p4 (cells:=X.env.cells) sc.names [] (eu e2));have hc2:=gu B I.ok hc';rw[hc] at hc2;cases hc2;obtain⟨oc,ho1,ho2⟩:=hcell;exact⟨c,(Bh _ _ _ fun z=>by have:=B.own _ z rfl;rw[e2] at this;cases this).trans hc',oc,hk _ _ ho1,ho2⟩
 ·rcases hw x c h with q | q
  ·obtain⟨v,oc,h1,h2⟩:=I.cell x c (gu B I.ok q);exact⟨v,oc,hk _ _ h1,h2⟩
  ·exact⟨_,q⟩
 ·rcases wD B I.ok h with q | q
  ·exact I.freeC x c q
  ·exact I.hok.fresh (Nat.le_trans hC (Nat.le_of_lt q))
 ·rcases List.mem_append.mp hp with hp | hp
  ·obtain⟨e1,e2,e3,e4,e5⟩:=I.pin p hp;exact⟨hk _ _ e1,e2,ltC e1,stk _ e3 e4,e5⟩
  ·have e:p=(D,o):=by simpa using hp
   subst e;exact⟨hk _ _ hD,hDH,ltC hD,stk _ hDL hDf,hDc⟩
 ·show (fr.map _).length=Nc.length;rw[lM0,B.len]
abbrev Runs (prog:Program) (w:World) (A:Around) {α:Type} (c:Sem α) (t:Shared) (Q:α->Shared->Prop):Prop:=wpAny (model prog w) A c Q (fun _ _=>False) t
theorem Runs.go {prog:Program} {w:World} {A:Around} {α:Type} {c:Sem α} {t:Shared} {Q Q':α->Shared->Prop} {E:VS} (h:Runs prog w A c t Q) (f:∀ a u,Q a u->Q' a u):wpAny (model prog w) A c Q' E t:=wpAny_mono h f fun _ _ z=>z.elim
theorem ym {prog:Program} {w:World} {A:Around} {R:Result->Shared->Prop} {s:Shared} {elt tg iter:Expr} {sc:Scope} {pos:Pos} {it acc:Value} {env:Env} (J:Nat->Shared->Prop)
  (one:∀ k t,J k t->Runs prog w A (pyNext it) t fun r t1=>match r with
   | none=>R (.ok .next) t1
   | some v=>Runs prog w A (letOwnedTupleGo tg it v) t1 fun _ t2=>Runs prog w A (assign tg env v) t2 fun _ t3=>Runs prog w A (eval elt env) t3 fun x t4=>
     Runs prog w A (call (.builtin "list.append") [acc,x]) t4 fun _ t5=>∃ j,j < k/\J j t5)
  (k:Nat) (h:J k s):codeAny (model prog w) A (.compLoop (.ListComp elt [⟨tg,iter,[],0⟩] sc pos) 0 it acc env) R s:=
 PySem.W.kcp_loop J (fun k t hJ=>(one k t hJ).go fun r t1 q=>match r,q with
  | none,q=>q
  | some _,q=>Runs.go q fun _ _ q=>Runs.go q fun _ _ q=>Runs.go q fun _ _ q=>Runs.go q fun _ _ q=>q) k h
theorem uR {elt iter tg:Expr} {sc:Scope} {pos:Pos} {Nc:Ls0} {fr:On} {g:TG} {te:TE} (B:Blk X.N X.env.scope sc Nc fr) (hc:X.calm=true)
  (hg:∀ s₀ H₀ C ex pn,PG (br X sc Nc s₀ H₀ C ex pn) tg g) (he:∀ s₀ H₀ C ex pn,PE (br X sc Nc s₀ H₀ C ex pn) elt te)
  {pins:Pn} {σ:St} {s2:Shared} {H2:Hp} {it:Addr} {fp:La0} {tn:Nat->Heap->Prop} {J:It} (I2:Inv X pins σ H2 s2) (T:Turn X.prog X.w X.K tg J fp it tn) (st2:tn 0 s2.heap) (f2:∀ b∈fp,e7 X pins H2 b)
  {Q:VK} (cw:JQ J g te (lP fr σ) H2 Q) {RR:Value->Addr->Result->Shared->Prop} {E:VS}
  (hRR:∀ D C s' H',Inv X pins σ H' s'->(∃ m,s'.heap.Ns C m)->e7 X pins H' C->Q (.ref D) H'->RR (.ref D) C (.ok .next) s') :
  wpAny (model X.prog X.w) X.A (newList []) (fun acc s₃=>wpAny (model X.prog X.w) X.A (newFunctionEnv sc X.env.globals (takes X.env.cells sc.names []) [] X.env.qual none .none (some X.env)) (fun cenv s₄=>
   codeAny (model X.prog X.w) X.A (.compStart (.ListComp elt [⟨tg,iter,[],0⟩] sc pos) 0 (.ref it) acc { cenv with scope:=relabel sc X.env }) (RR acc cenv.locals) s₄) E s₃) E s2:=by
 obtain⟨W,⟨m0,w0⟩,turn⟩:=cw;refine wpAny_newObj_type (vX fun h₁ hns₁ old₁ cl₁=>?_);dsimp only at hns₁ old₁ cl₁ ⊢;generalize hH2:s2.heap.push { cls:=.type "list",dict:=none,data:=.seq ([]:Lv0).toArray }=hp at hns₁ old₁ cl₁ ⊢;have hCs:hp.objs.size=s2.heap.objs.size + 1:=by rw[<- hH2,Heap.size_push]
 generalize hCe:hp.objs.size=C at hns₁ cl₁ ⊢;generalize hDe:s2.heap.objs.size=D at hCs ⊢;have hDC:D≠C:=by rw[<- hCe,hCs];exact Nat.ne_of_lt (Nat.lt_succ_self _)
 have up:∀ b o,s2.heap.get? b=some o->hp.get? b=some o:=fun b o e=>by rw[<- hH2];exact Heap.get?_push_of_some _ e
 have hDp:hp.get? D=some (bH [] 0):=by rw[<- hH2,<- hDe];exact Heap.get?_push_size _ rfl
 have I3:Inv X pins σ H2 { s2 with heap:=hp }:=I2.kept (t':=s2.toks) up;have hD0:H2 D=none:=I2.hok.fresh (by rw[hDe];exact Nat.le_refl _);have fD:e7 X pins H2 D:=I2.qu (by rw[hDe];exact Nat.le_refl _) hD0;have fpo:∀ b∈fp,∃ o,s2.heap.get? b=some o/\∀ v,o.data≠.cell v:=T.obj 0 _ st2;have fplt:∀ b∈fp,b < D:=fun b hb=>by obtain⟨o,e,_⟩:=fpo b hb;rw[<- hDe];exact Heap.lt_size e
 have hDfp:D∉fp:=fun hb=>Nat.lt_irrefl _ (fplt D hb);have hCfp:C∉fp:=fun hb=>by have:=fplt C hb;rw[<- hCe,hCs] at this;exact absurd (Nat.lt_of_succ_lt this) (Nat.lt_irrefl _)
 have nobase:∀ b,(b∈X.ex\/X.s₀.heap.objs.size<=b)->∀ o,X.base.get? b≠some o:=fun b h o e=>by
  rcases h with h | h
  ·exact I2.ok.noex b o e h
  ·exact absurd (Nat.lt_of_lt_of_le (Heap.lt_size e) (Nat.le_trans I2.ok.bsz h)) (Nat.lt_irrefl _)
 have hex:∀ b∈D::fp,b < hp.objs.size/\b∉X.fs/\b≠X.env.locals/\(∀ x c,X.env.cells.lookup x=some c->c≠b)/\∀ o,X.base.get? b≠some o:=fun b hb=>by
  have fb:e7 X pins H2 b:=by
   rcases List.mem_cons.mp hb with e | hb
   ·rw[e];exact fD
   ·exact f2 b hb
  refine⟨?_,fb.2.2.1,fb.2.1,fb.2.2.2.2.1,nobase b fb.2.2.2.1⟩;rcases List.mem_cons.mp hb with e | hb
  ·rw[e,hCs];exact Nat.lt_succ_self _
  ·rw[hCs];exact Nat.lt_succ_of_lt (fplt b hb)
 have hCle:hp.objs.size<=C:=by rw[hCe];exact Nat.le_refl _
 have ok:(br X sc Nc { s2 with heap:=hp } H2 C (D::fp) (X.pn++pins)).Ok:=Gq B I3 hCle hex;have old:∀ b u,hp.get? b=some u->h₁.get? b=some u:=old₁;have J0:Inv (br X sc Nc { s2 with heap:=hp } H2 C (D::fp) (X.pn++pins)) [(D,bH [] 0)] (lP fr σ) H2 { s2 with heap:=h₁ }:=
  Cw B ok I3 hCle rfl rfl old hns₁ cl₁ hDp hD0 fD.2.1 fD.2.2.1 (fun v z=>by cases z)
 have fpY:∀ {H':Hp} {u:Obj},(∀ b∈fp,H' b=none)->∀ b∈fp,e7 (br X sc Nc { s2 with heap:=hp } H2 C (D::fp) (X.pn++pins)) [(D,u)] H' b:=fun {H' u} hn b hb=>
  ⟨hn b hb,fun e=>hCfp (by have e':b=C:=e;rw[<- e'];exact hb),ok.exfs b (List.mem_cons_of_mem _ hb),.inl (List.mem_cons_of_mem _ hb),(ok.exf b (List.mem_cons_of_mem _ hb)).2,fun p hp'=>by
   rcases List.mem_append.mp hp' with q | q
   ·exact(f2 b hb).2.2.2.2.2 p q
   ·have e:p=(D,u):=by simpa using q
    rw[e];exact fun z=>hDfp (by have z':D=b:=z;rw[z'];exact hb)⟩
 have loop:codeAny (model X.prog X.w) X.A (.compLoop (.ListComp elt [⟨tg,iter,[],0⟩] sc pos) 0 (.ref it) (.ref D) (compEnvC sc (bcl X.env.cells sc C) C X.env)) (RR (.ref D) C) { s2 with heap:=h₁ }:=by
  refine ym (fun n s'=>∃ (i:Nat) (ys:List V) (us:Lv0) (σc:St) (H':Hp),Inv (br X sc Nc { s2 with heap:=hp } H2 C (D::fp) (X.pn++pins)) [(D,bH us us.length)] σc H' s'/\Vals ys us/\tn i s'.heap/\(∀ b∈fp,H' b=none)/\W i n ys σc H')
   ?_ m0 ⟨0,[],[],_,H2,J0,.nil,T.keep _ _ _ st2 (fun b _ o e=>old b o (up b o e)),fun b hb=>(f2 b hb).1,w0⟩
  rintro n s3 ⟨i,ys,us,σ3,H3,I3',rv,st3,fr3,w3⟩;obtain⟨hsz,hcase⟩:=turn i n ys σ3 H3 w3;rcases hcase with ⟨stop,qn⟩ | ⟨go,step⟩
  ·refine thn (T.done (br X sc Nc { s2 with heap:=hp } H2 C (D::fp) (X.pn++pins)) rfl rfl rfl hc i _ s3 σ3 H3 _ I3' (fpY fr3) st3 stop) fun r s4 Z=>?_;obtain⟨hr,I4⟩:=Z;subst hr;obtain⟨pD,pH,_,_,_⟩:=I4.pin (D,bH us us.length) (List.mem_append_right _ List.mem_cons_self);obtain⟨mC',hnC,_⟩:=I4.loc;have un:Un (frs X.stack) fp H2 (upd H3 D (.lst ys)) s2.heap s4.heap:=by
    have u0:Un (frs X.stack) (D::fp) H2 H3 hp s4.heap:=I4.base;have neD:∀ {b:Addr} {o:Obj},s2.heap.get? b=some o->b≠D:=fun e=>by rw[<- hDe];exact Nat.ne_of_lt (Heap.lt_size e)
    have nx:∀ {b:Addr} {o:Obj},s2.heap.get? b=some o->b∉fp->b∉D::fp:=fun e h1 h2=>by
     rcases List.mem_cons.mp h2 with z | z
     ·exact neD e z
     ·exact h1 z
    have neT:∀ {b:Addr} {o:HO},H2 b=some o->b≠D:=fun e z=>by rw[z,hD0] at e;cases e
    exact⟨fun b o e n hb hx=>u0.keep b o (up b o e) n hb (nx e hx),fun b o e n hb hx=>u0.slot b o (up b o e) n hb (nx e hx),fun b o e n hx=>by rw[ah (neD e)];exact u0.free b o (up b o e) n (nx e hx),
     fun b o e hx=>u0.there b o (up b o e) (nx e hx),fun b xs e=>by rw[ah (neT e)];exact u0.tups b xs e,fun b o xs e=>by rw[ah (neT e)];exact u0.mq b o xs e,fun b ps e=>by rw[ah (neT e)];exact u0.tbls b ps e⟩
   have hok:HOk X.prog X.w (upd H3 D (.lst ys)) s4.heap:=fun b u e=>by
    by_cases hb:b=D
    ·subst hb;rw[ar] at e;cases e;exact⟨Nat.le_of_lt hsz,us,us.length,rv,pD⟩
    ·rw[ah hb] at e;refine(I4.hok b u e).tu (fun c v _ q=>q) (fun c q=>?_) fun c xs q=>?_
     ·rw[ah (fun z=>by rw[z] at q;rw[show H3 D=none from pH] at q;cases q)];exact q
     ·rw[ah (fun z=>by rw[z] at q;rw[show H3 D=none from pH] at q;cases q)];exact q
   have I5:Inv X pins σ (upd H3 D (.lst ys)) s4:=I2.JJ I4.os un hok I4.bare fun b hb=>⟨(f2 b hb).2.2.2.1,(f2 b hb).2.1,(f2 b hb).2.2.2.2.1,(f2 b hb).2.2.2.2.2⟩;refine hRR D C s4 _ I5 ⟨mC',hnC⟩ ?_ (qn D pH);have hC2:s2.heap.objs.size<=C:=by rw[hDe,<- hCe,hCs];exact Nat.le_succ _
   refine I2.qu hC2 ?_;rw[ah (Ne.symm hDC)];exact I4.free
  ·refine thn (T.item (br X sc Nc { s2 with heap:=hp } H2 C (D::fp) (X.pn++pins)) rfl rfl rfl hc i _ s3 σ3 H3 _ I3' (fpY fr3) st3 go) fun r s4 Z=>?_;obtain⟨u,hr,h4⟩:=Z;subst hr;refine thn h4 fun _ s5 Z=>?_;obtain⟨x,H5,I5,r5,y5,st5,fr5⟩:=Z;have I5':=I5.pinned (fpY fr5) (T.obj _ _ st5);refine thn (hg _ _ _ _ _ _ s5 σ3 H5 x u _ I5' r5 (step x H5 y5)) fun _ s6 Z=>?_;obtain⟨σ6,H6,I6,N,hN,q6⟩:=Z;refine thn (he _ _ _ _ _ _ s6 σ6 H6 _ I6 q6) fun y s7 Z=>?_;obtain⟨yv,H7,I7,r7,q7⟩:=Z;obtain⟨pD,pH,pL,pF,pc⟩:=I7.pin (D,bH us us.length) (List.mem_append_right _ (List.mem_append_left _ List.mem_cons_self));have hlen:us.length=ys.length:=rv.length.symm;refine append_at (hsz:=by rw[List.size_toArray,hlen];exact Nat.le_of_lt hsz) pD fun h8 sb8 hD8=>?_;obtain⟨m',hm,w8⟩:=hN yv H7 q7;have st7:tn (i + 1) s7.heap:=T.keep _ _ _ st5 fun b hb o e=>(I7.pin (b,o) (List.mem_append_right _ (List.mem_append_right _ (eO hb e)))).1;have fr7:∀ b∈fp,H7 b=none:=fun b hb=>by
    obtain⟨o,e,d⟩:=T.obj _ _ st5 b hb;exact(I7.pin (b,o) (List.mem_append_right _ (List.mem_append_right _ (eO hb e)))).2.1
   have I7n:Inv (br X sc Nc { s2 with heap:=hp } H2 C (D::fp) (X.pn++pins)) [] σ6 H7 s7:=I7.jI fun p z=>absurd z (by simp);have I8:Inv (br X sc Nc { s2 with heap:=hp } H2 C (D::fp) (X.pn++pins)) [] σ6 H7 { s7 with heap:=h8 }:=
    I7n.turned (t':=s7.toks) (it:=D) (fun b o hb e=>(sb8.2 b hb).trans e) pH pL (.inl List.mem_cons_self) (fun x c e=>(ok.exf D List.mem_cons_self).2 x c e) fun p hp'=>by
     have hp2:p∈X.pn++pins:=by simpa using hp'
     exact fD.2.2.2.2.2 p hp2
   have e8:h8.get? D=some (bH (us++[y]) (us++[y]).length):=by
    rw[hD8];simp
   refine⟨m',hm,i + 1,ys++[yv],us++[y],σ6,H7,I8.jI fun p z=>?_,rv.append (.cons r7 .nil),T.keep _ _ _ st7 fun b hb o e=>(sb8.2 b fun z=>hDfp (by rw[<- z];exact hb)).trans e,fr7,w8⟩;have e:p=(D,bH (us++[y]) (us++[y]).length):=by simpa using z
   subst e;exact⟨e8,pH,pL,pF,fun v z=>by cases z⟩
 exact codeAny_compStart_list loop (wpAny_mono (T.self X.A 0 _ _ (fun _ _=>False) (T.keep _ _ _ st2 (fun b _ o e=>old b o (up b o e))) loop) (fun _ _ h=>h) fun _ _ h=>h.elim)
theorem yp {pins:Pn} {σ:St} {H:Hp} {s:Shared} {sc:Scope} {Nc:Ls0} {fr:On} (B:Blk X.N X.env.scope sc Nc fr) (I:Inv X pins σ H s):closureFor sc X.env=pure (takes X.env.cells sc.names []):=
 vp fun y hy hf=>I.ok.has y.1 (B.free y hy hf)
theorem BQ {elt iter tg:Expr} {sc:Scope} {pos:Pos} {Nc:Ls0} {fr:On} {wi:TI} {g:TG} {te:TE} (hc:X.calm=true) (hi:PI X tg iter wi) (B:Blk X.N X.env.scope sc Nc fr)
  (hg:∀ s₀ H₀ C ex pn,PG (br X sc Nc s₀ H₀ C ex pn) tg g) (he:∀ s₀ H₀ C ex pn,PE (br X sc Nc s₀ H₀ C ex pn) elt te) (hs:autoParam (∀ x,foldedSetIterable iter X.env x=pure x) j0) :
  PE X (.ListComp elt [⟨tg,iter,[],0⟩] sc pos) (sY fr wi g te):=by
 intro pins s σ H Q I h;rw[eval_ListComp];refine wpAny_comprehension_free (use:=none) rfl hs (yp B I) B.kind B.locs (thn (hi pins s σ H _ I h) fun v s1 h1=>thn h1 fun itv s2 h2=>?_);obtain⟨it,fp,tn,J,H2,e,I2,T,st2,f2,cw⟩:=h2;subst e;refine uR (RR:=fun acc C=>compPost (model X.prog X.w) X.A X.xe none (EP X pins σ Q) acc C) B hc hg he I2 T st2 f2 cw fun D C s' H' I' hn fC q=>?_;obtain⟨m,hn⟩:=hn;exact⟨m,hn,fun h' sb=>⟨.ref D,H',I'.turned (t':=s'.toks) (fun b o hb e=>(sb.2 b hb).trans e) fC.1 fC.2.1 fC.2.2.2.1 fC.2.2.2.2.1 fC.2.2.2.2.2,rfl,q⟩⟩
theorem Aw {i:Nat} {x:Str} {px spos:Pos} {elt iter tg:Expr} {sc:Scope} {pos:Pos} {Nc:Ls0} {fr:On} {wi:TI} {g:TG} {te:TE} (hN:X.N.Nodup) (hi':X.N[i]?=some x) (hx:X.env.scope.names.lookup x=some .local)
  (hc:X.calm=true) (hi:PI X tg iter wi) (B:Blk X.N X.env.scope sc Nc fr)
  (hg:∀ s₀ H₀ C ex pn,PG (br X sc Nc s₀ H₀ C ex pn) tg g) (he:∀ s₀ H₀ C ex pn,PE (br X sc Nc s₀ H₀ C ex pn) elt te)
  (hsw:autoParam (swapsWith (.ListComp elt [⟨tg,iter,[],0⟩] sc pos) (some (.Name x px)) spos.line X.env=pure true) r0) (hs:autoParam (∀ x,foldedSetIterable iter X.env x=pure x) j0) :
  PS X (.Assign [.Name x px] (.ListComp elt [⟨tg,iter,[],0⟩] sc pos) spos) (hU (sY fr wi g te) (i9 i)):=by
 intro pins s σ H D I h;rw[exec_Assign_Name_used _ _ _ _ hsw];refine wpAny_bind (wpAny_standAt (wpAny_bind ?_));show wpAny _ X.A (do let _ <- comprehension (.ListComp elt [⟨tg,iter,[],0⟩] sc pos) sc X.env _ (newList []) false (eval iter X.env) (some (assign (.Name x px) X.env))) _ _ s;refine wpAny_bind (wpAny_mono (wpAny_comprehension_free (use:=some (assign (.Name x px) X.env)) (Q:=fun _ s'=>SP X pins D .next s') rfl hs (yp B I) B.kind B.locs
  (thn (hi pins s σ H _ I h) fun v s1 h1=>thn h1 fun itv s2 h2=>?_)) (fun _ s' hq=>wpAny_pure (wpAny_pure hq)) fun _ _ e=>e)
 obtain⟨it,fp,tn,J,H2,e,I2,T,st2,f2,cw⟩:=h2;subst e;refine uR (RR:=fun acc C=>compPost (model X.prog X.w) X.A X.xe (some (assign (.Name x px) X.env)) (fun _ s'=>SP X pins D .next s') acc C) B hc hg he I2 T st2 f2 cw fun L C s' H' I' hn fC q=>?_;obtain⟨m,hn⟩:=hn;show wpAny _ X.A (assign (.Name x px) X.env (.ref L)) _ _ _;refine wpAny_assign_Name (vG I' hN hi' (.inl hx) (v:=.ref L) rfl (fun s3 I3 hs3=>?_) (.inr hx));obtain⟨a,sb,ha⟩:=hs3;have hCa:C≠a:=by
  rcases ha with e | e
  ·rw[e];exact fC.2.1
  ·exact fun z=>fC.2.2.2.2.1 _ _ e (by rw[z])
 exact⟨m,hn.sameBut sb hCa,fun h' sb'=>⟨_,H',I3.turned (t':=s3.toks) (fun b o hb e=>(sb'.2 b hb).trans e) fC.1 fC.2.1 fC.2.2.2.1 fC.2.2.2.2.1 fC.2.2.2.2.2,q⟩⟩
theorem z8:∀ {bs:List Bool} {us:Lv0},Vals (bs.map V.bl) us->LSm.BoolsAre us bs
 | [],_,.nil=>.nil
 | _::_,_,.cons r t=>by
  obtain rfl:=(show _=Value.bool _ from r);exact .cons _ (z8 t)
theorem DH (hc:X.calm=true):bV X (.builtin "all") (fun xs H Q=>∃ (p:Addr) (bs:List Bool),xs=[.ref p]/\SqL X.K H p (bs.map V.bl)/\Q (.bl (bs.all id)) H):=by
 intro pins s σ H xs us Q I r h;obtain⟨p,bs,rfl,hq,q⟩:=h;obtain⟨u,rfl,ru⟩:=vals1 r;cases ru;obtain⟨its,rv,pl,hz⟩:=I.list hq;have hb:=z8 rv;have hl:=pl.isList;have hlt:p < s.heap.objs.size:=by obtain⟨_,e,_⟩:=hl;exact Heap.lt_size e
 refine call_all_walk (wpAny_pyIter_list hl ⟨s.heap.objs.size,[s.heap.objs.size,p],[s.heap.objs.size],its.toArray.size,_,_,fun i=>(bs[i]?).getD true,rfl,Walks.list (A:=X.A.in1) (I.ok.hd hc) _ p (Nat.ne_of_lt hlt) its.toArray,⟨⟨_,Heap.get?_push_size _ rfl,rfl,rfl⟩,hl.push _⟩,
  fun i v s' Q' E' hP hQ=>?_,fun h' tk hk=>?_⟩)
 ·obtain⟨b,e,rfl⟩:=hb.get i v (by simpa using hP);simp only[e,Option.getD_some] at hQ;exact wpAny_truthy_bool hQ
 ·have e:((List.range its.toArray.size).all fun i=>(bs[i]?).getD true)=bs.all id:=by rw[List.size_toArray,hb.length,LSm.range_all bs]
  rw[e];exact⟨.bl _,H,I.kept (LSm.kept_iter hk),rfl,q⟩
structure gk (K:Fg0):Prop where
 bb:PySem.W.kitOne K (.type "bool") (.type "bool")=some true
 bi:PySem.W.kitOne K (.type "bool") (.type "int")=some true
 bl:PySem.W.kitOne K (.type "bool") (.type "list")=some false
 bt:PySem.W.kitOne K (.type "bool") (.type "tuple")=some false
 ib:PySem.W.kitOne K (.type "int") (.type "bool")=some false
 ii:PySem.W.kitOne K (.type "int") (.type "int")=some true
 il:PySem.W.kitOne K (.type "int") (.type "list")=some false
 it:PySem.W.kitOne K (.type "int") (.type "tuple")=some false
 nb:PySem.W.kitOne K (.type "NoneType") (.type "bool")=some false
 ni:PySem.W.kitOne K (.type "NoneType") (.type "int")=some false
 nl:PySem.W.kitOne K (.type "NoneType") (.type "list")=some false
 nt:PySem.W.kitOne K (.type "NoneType") (.type "tuple")=some false
 sb:PySem.W.kitOne K (.type "str") (.type "bool")=some false
 si:PySem.W.kitOne K (.type "str") (.type "int")=some false
 sl:PySem.W.kitOne K (.type "str") (.type "list")=some false
 st:PySem.W.kitOne K (.type "str") (.type "tuple")=some false
 lb:PySem.W.kitOne K (.type "list") (.type "bool")=some false
 li:PySem.W.kitOne K (.type "list") (.type "int")=some false
 ll:PySem.W.kitOne K (.type "list") (.type "list")=some true
 lt:PySem.W.kitOne K (.type "list") (.type "tuple")=some false
 tb:PySem.W.kitOne K (.type "tuple") (.type "bool")=some false
 ti:PySem.W.kitOne K (.type "tuple") (.type "int")=some false
 tl:PySem.W.kitOne K (.type "tuple") (.type "list")=some false
 tt:PySem.W.kitOne K (.type "tuple") (.type "tuple")=some true
 db:PySem.W.kitOne K (.type "dict") (.type "bool")=some false
 di:PySem.W.kitOne K (.type "dict") (.type "int")=some false
 dl:PySem.W.kitOne K (.type "dict") (.type "list")=some false
 dt:PySem.W.kitOne K (.type "dict") (.type "tuple")=some false
inductive Kn (H:Hp):V->Prop where
 | non:Kn H .non
 | bl (b:Bool):Kn H (.bl b)
 | int (i:Int):Kn H (.int i)
 | str (x:Str):Kn H (.str x)
 | lst {a:Addr} {xs:List V} (e:H a=some (.lst xs)):Kn H (.ref a)
 | tup {a:Addr} {xs:List V} (e:H a=some (.tup xs)):Kn H (.ref a)
 | dK {a:Addr} {kvs:List (Key×V)} (e:H a=some (.dK kvs)):Kn H (.ref a)
noncomputable def isB:V->Bool
 | .bl _=>true
 | _=>false
noncomputable def isI:V->Bool
 | .bl _=>true
 | .int _=>true
 | _=>false
noncomputable def isL (H:Hp):V->Bool
 | .ref a=>match H a with
  | some (.lst _)=>true
  | _=>false
 | _=>false
noncomputable def isT (H:Hp):V->Bool
 | .ref a=>match H a with
  | some (.tup _)=>true
  | _=>false
 | _=>false
theorem Ca {H:Hp} {a:Addr} {xs:List V} (h:H a=some (.lst xs)):isL H (.ref a)=true:=by simp only[isL,h]
theorem B_ {H:Hp} {a:Addr} {xs:List V} (h:H a=some (.tup xs)):isL H (.ref a)=false:=by simp only[isL,h]
theorem A5 {H:Hp} {a:Addr} {xs:List (Key×V)} (h:H a=some (.dK xs)):isL H (.ref a)=false:=by simp only[isL,h]
theorem B9 {H:Hp} {a:Addr} {xs:List V} (h:H a=some (.lst xs)):isT H (.ref a)=false:=by simp only[isT,h]
theorem B8 {H:Hp} {a:Addr} {xs:List V} (h:H a=some (.tup xs)):isT H (.ref a)=true:=by simp only[isT,h]
theorem A4 {H:Hp} {a:Addr} {xs:List (Key×V)} (h:H a=some (.dK xs)):isT H (.ref a)=false:=by simp only[isT,h]
theorem aA {pins:Pn} {s:Shared} {σ:St} {H:Hp} {x:V} {c:String} {us:Lv0} {t:Value} {b b':Bool} {Q:VK} (I:Inv X pins σ H s) (r:Vals [x,.ty c] us) (ty:mD X.K H x t) (e:PySem.W.kitOne X.K t (.type c)=some b) (eb:b'=b) (q:Q (.bl b') H) :
  wpAny (model X.prog X.w) X.A (call (.builtin "isinstance") us) (EP X pins σ Q) X.xe s:=by
 obtain⟨u,w',rfl,ru,rw'⟩:=vals2 r;obtain rfl:w'=Value.type c:=rw';subst eb;exact v3 I ru ty e fun tk=>⟨.bl b',H,I.tok _,rfl,q⟩
theorem Ge (F:gk X.K):bV X (.builtin "isinstance") (fun xs H Q=>∃ x,xs=[x,.ty "bool"]/\Kn H x/\Q (.bl (isB x)) H):=by
 intro pins s σ H xs us Q I r h;obtain⟨x,rfl,k,q⟩:=h;cases k with
 | non=>exact aA I r .non F.nb rfl q
 | bl b=>exact aA I r (.bl b) F.bb rfl q
 | int i=>exact aA I r (.int i) F.ib rfl q
 | str y=>exact aA I r (.str y) F.sb rfl q
 | lst e=>exact aA I r (.lst e) F.lb rfl q
 | tup e=>exact aA I r (.tup e) F.tb rfl q
 | dK e=>exact aA I r (.dK e) F.db rfl q
theorem Gb (F:gk X.K):bV X (.builtin "isinstance") (fun xs H Q=>∃ x,xs=[x,.ty "int"]/\Kn H x/\Q (.bl (isI x)) H):=by
 intro pins s σ H xs us Q I r h;obtain⟨x,rfl,k,q⟩:=h;cases k with
 | non=>exact aA I r .non F.ni rfl q
 | bl b=>exact aA I r (.bl b) F.bi rfl q
 | int i=>exact aA I r (.int i) F.ii rfl q
 | str y=>exact aA I r (.str y) F.si rfl q
 | lst e=>exact aA I r (.lst e) F.li rfl q
 | tup e=>exact aA I r (.tup e) F.ti rfl q
 | dK e=>exact aA I r (.dK e) F.di rfl q
theorem Ga (F:gk X.K):bV X (.builtin "isinstance") (fun xs H Q=>∃ x,xs=[x,.ty "list"]/\Kn H x/\Q (.bl (isL H x)) H):=by
 intro pins s σ H xs us Q I r h;obtain⟨x,rfl,k,q⟩:=h;cases k with
 | non=>exact aA I r .non F.nl rfl q
 | bl b=>exact aA I r (.bl b) F.bl rfl q
 | int i=>exact aA I r (.int i) F.il rfl q
 | str y=>exact aA I r (.str y) F.sl rfl q
 | lst e=>exact aA I r (.lst e) F.ll (Ca e) q
 | tup e=>exact aA I r (.tup e) F.tl (B_ e) q
 | dK e=>exact aA I r (.dK e) F.dl (A5 e) q
theorem FZ (F:gk X.K):bV X (.builtin "isinstance") (fun xs H Q=>∃ x,xs=[x,.ty "tuple"]/\Kn H x/\Q (.bl (isT H x)) H):=by
 intro pins s σ H xs us Q I r h;obtain⟨x,rfl,k,q⟩:=h;cases k with
 | non=>exact aA I r .non F.nt rfl q
 | bl b=>exact aA I r (.bl b) F.bt rfl q
 | int i=>exact aA I r (.int i) F.it rfl q
 | str y=>exact aA I r (.str y) F.st rfl q
 | lst e=>exact aA I r (.lst e) F.lt (B9 e) q
 | tup e=>exact aA I r (.tup e) F.tt (B8 e) q
 | dK e=>exact aA I r (.dK e) F.dt (A4 e) q
mutual
inductive Dt (K:Fg0) (H:Hp):V->PyData->Prop where
 | non:Dt K H .non .none
 | bl (b:Bool):Dt K H (.bl b) (.bool b)
 | int (i:Int):Dt K H (.int i) (.int i)
 | str (x:Str):Dt K H (.str x) (.str x)
 | lst {a:Addr} {xs:List V} {ds:List PyData}:SqL K H a xs->cW K H xs ds->Dt K H (.ref a) (.list ds)
 | tup {a:Addr} {xs:List V} {ds:List PyData}:SqT K H a xs->cW K H xs ds->Dt K H (.ref a) (.tuple ds)
 | dct {a:Addr}:H a=some (.dK [])->Dt K H (.ref a) (.dict [])
 | dcs {a:Addr} (y:Str) (i:Int):H a=some (.dK [(.inr y,.int i)])->Dt K H (.ref a) (.dict [(.str y,.int i)])
inductive cW (K:Fg0) (H:Hp):List V->List PyData->Prop where
 | nil:cW K H [] []
 | cons {x:V} {xs:List V} {d:PyData} {ds:List PyData}:Dt K H x d->cW K H xs ds->cW K H (x::xs) (d::ds)
end
theorem Be {pins:Pn} {σ:St} {H:Hp} {s:Shared} {a:Addr} (I:Inv X pins σ H s) (h:H a=some (.dK [])):∃ o n,s.heap.get? a=some o/\o.cls=.type "dict"/\o.data=.dict #[] n/\(a == sysModules)=false:=by
 obtain⟨_,q,vs,kv,o,es,n,e1,e2,e3,_,e4,_⟩:=JF I.hok h;have:vs=[]:=by cases kv;rfl
 subst this;have:es.toList=[]:=by cases e:es.toList with
  | nil=>rfl
  | cons x xs=>rw[e] at e4;cases e4
 have:es=#[]:=by cases es;simp_all
 subst this;exact⟨o,n,e1,e2.1,e3,q⟩
theorem Bf {pins:Pn} {σ:St} {H:Hp} {s:Shared} {a:Addr} {y:Str} {i:Int} (I:Inv X pins σ H s) (h:H a=some (.dK [(.inr y,.int i)])) :
  ∃ o es n t u q,s.heap.get? a=some o/\o.cls=.type "dict"/\o.data=.dict es n/\(a == sysModules)=false/\es.toList=[⟨q,.str y t,.int i u⟩]:=by
 obtain⟨_,q,vs,kv,o,es,n,e1,e2,e3,_,e4,_⟩:=JF I.hok h;cases kv with
 | @cons p r ps qs h1 t1=>
  cases t1;obtain⟨r1,r2⟩:=r;obtain⟨hk,u,hv⟩:=h1;cases (show (Sum.inr y:Key)=r1 from hk);cases (show r2=Value.int i u from hv);cases hes:es.toList with
  | nil=>rw[hes] at e4;cases e4
  | cons x xs=>
   rw[hes] at e4;cases e4 with
   | cons k1 k2 k3=>
    cases k3;obtain⟨hx,kx,vx⟩:=x;rcases bR (show Fo (.inr y) kx=true from k1) with ⟨j,t,z,_⟩ | ⟨z,t,e,rfl⟩
    ·cases z
    ·cases e;cases (show vx=Value.int i u from k2);exact⟨o,es,n,t,u,hx,e1,e2.1,e3,q,hes⟩
mutual
theorem Dt.reads {pins:Pn} {σ:St} {H:Hp} {s:Shared} (I:Inv X pins σ H s):∀ {x:V} {d:PyData} {u:Value},Dt X.K H x d->RelV x u->∃ as,Reads s.heap u d as
 | _,_,_,.non,r=>by cases r;exact⟨_,.none⟩
 | _,_,_,.bl b,r=>by cases r;exact⟨_,.bool b⟩
 | _,_,_,.int i,r=>by obtain⟨t,rfl⟩:=r;exact⟨_,.int i t⟩
 | _,_,_,.str y,r=>by obtain⟨t,rfl⟩:=r;exact⟨_,.str y t⟩
 | _,_,_,.lst hq hs,r=>by
  cases r;obtain⟨its,rv,⟨o,n,e1,e2,e3,e4⟩,hz⟩:=I.list hq;obtain⟨as,h⟩:=cW.reads I hs rv;exact⟨_,.list e1 e2 e4 (by simpa using h)⟩
 | _,_,_,.tup hq hs,r=>by
  cases r;obtain⟨its,rv,⟨o,e1,e2,n,e4⟩,hz⟩:=I.tuple hq;obtain⟨as,h⟩:=cW.reads I hs rv;exact⟨_,.tuple e1 e2 e4 (by simpa using h)⟩
 | _,_,_,.dct hq,r=>by
  cases r;obtain⟨o,n,e1,e2,e3,_⟩:=Be I hq;exact⟨_,.dict e1 e2 e3 .nil .nil⟩
 | _,_,_,.dcs y i hq,r=>by
  cases r;obtain⟨o,es,n,t,u,q,e1,e2,e3,_,e5⟩:=Bf I hq;exact⟨_,.dict e1 e2 e3 (by rw[e5];exact .cons (.str y t) .nil) (by rw[e5];exact .cons (.int i u) .nil)⟩
theorem cW.reads {pins:Pn} {σ:St} {H:Hp} {s:Shared} (I:Inv X pins σ H s):∀ {xs:List V} {ds:List PyData} {us:Lv0},cW X.K H xs ds->Vals xs us->∃ as,ReadsAll s.heap us ds as
 | _,_,_,.nil,.nil=>⟨_,.nil⟩
 | _,_,_,.cons h1 h2,.cons r1 r2=>by
  obtain⟨as,a⟩:=Dt.reads I h1 r1;obtain⟨bs,b⟩:=cW.reads I h2 r2;exact⟨_,.cons a b⟩
end
structure Shw (d:PyData):Prop where
 sh:d.showable=true
 dp:d.depth<=20
 sz:d.shown.length<=sizeLine
def Lr (X:Cx) (h:Heap) (u:Value) (d:PyData):Prop:=∃ bs,ReadAtMost h d.depth bs/\ReprK X.prog X.w bs h d.depth u d.shown
def IH (X:Cx) (h:Heap) (us:Lv0) (ds:List PyData):Prop:=∃ bs,ReadAtMost h (PyData.depthAll ds) bs/\ReprAllK X.prog X.w bs h (PyData.depthAll ds) us (PyData.shownAll ds)
theorem Lr.is {h:Heap} {u:Value} {d:PyData} (k:ReprIs X.prog X.w u d.shown):Lr X h u d:=⟨[],by (intro _ z;cases z),.of_is k _ _ _⟩
theorem uQ (y:Str) (i:Int):(reprText y).length<=(PyData.shown (.dict [(.str y,.int i)])).length:=by
 have e:PyData.shown (.dict [(.str y,.int i)])=dictText [reprText y++": "++PyData.shown (.int i)]:=by simp only[PyData.shown,PyData.shownKv]
 have h:=dictText_mem_le (List.mem_singleton.mpr (rfl:reprText y++": "++PyData.shown (.int i)=_));rw[strLen_append,strLen_append] at h;rw[e];omega
theorem Cr {y:Str} {i:Int} (h:PyData.showable (.dict [(.str y,.int i)])=true):i.natAbs.log2 < 1920:=by
 simp [PyData.showable,PyData.showableKv] at h;exact h
mutual
theorem Dt.says {pins:Pn} {σ:St} {H:Hp} {s:Shared} (I:Inv X pins σ H s):∀ {x:V} {d:PyData} {u:Value},Dt X.K H x d->RelV x u->d.showable=true->d.shown.length<=sizeLine->Lr X s.heap u d
 | _,_,_,.non,r,_,_=>by cases r;exact .is (by simp only[PyData.shown];exact .none)
 | _,_,_,.bl b,r,_,_=>by cases r;exact .is (by simp only[PyData.shown];exact .bool b)
 | _,_,_,.int i,r,q,_=>by obtain⟨t,rfl⟩:=r;exact .is (by simp only[PyData.shown];exact .int t (by simpa [PyData.showable] using q))
 | _,_,_,.str y,r,_,z=>by obtain⟨t,rfl⟩:=r;exact .is (by simp only[PyData.shown] at z ⊢;exact .str y t z)
 | _,_,_,.lst (a:=a) (ds:=ds) hq hs,r,q,z=>by
  cases r;obtain⟨its,rv,⟨o,n,e1,e2,e3,e4⟩,_⟩:=I.list hq;obtain⟨as,ra⟩:=cW.reads I hs rv;have rd:Reads s.heap (.ref a) (.list ds) _:=.list e1 e2 e4 (by simpa using ra);simp only[PyData.shown] at z;obtain⟨bs,b1,b2⟩:=cW.says I hs rv (by simpa [PyData.showable] using q) fun t ht=>Nat.le_trans (listText_mem_le ht) z;have na:=not_mem_of_deeper rd (n:=PyData.depthAll ds) (by simp only[PyData.depth];omega) b1;refine⟨a::bs,ReadAtMost.cons rd (by simp only[PyData.depth];omega) b1,?_⟩;simp only[PyData.shown,PyData.depth];cases its with
  | nil=>cases rv;cases hs;simp only[PyData.shownAll,listText_nil];exact .listEmpty e1 e2 e4
  | cons y ys=>exact .list e1 e2 e4 na (by rw[b2.length_eq];simp) fun i v e=>b2.item i v (by simpa using e)
 | _,_,_,.tup (a:=a) (ds:=ds) hq hs,r,q,z=>by
  cases r;obtain⟨its,rv,⟨o,e1,e2,n,e4⟩,_⟩:=I.tuple hq;obtain⟨as,ra⟩:=cW.reads I hs rv;have rd:Reads s.heap (.ref a) (.tuple ds) _:=.tuple e1 e2 e4 (by simpa using ra);simp only[PyData.shown] at z;obtain⟨bs,b1,b2⟩:=cW.says I hs rv (by simpa [PyData.showable] using q) fun t ht=>Nat.le_trans (tupleText_mem_le ht) z;have na:=not_mem_of_deeper rd (n:=PyData.depthAll ds) (by simp only[PyData.depth];omega) b1;refine⟨a::bs,ReadAtMost.cons rd (by simp only[PyData.depth];omega) b1,?_⟩;simp only[PyData.shown,PyData.depth];exact .tuple e1 e2 e4 na (by simpa using b2)
 | _,_,_,.dct (a:=a) hq,r,_,_=>by
  cases r;obtain⟨o,n,e1,e2,e3,e4⟩:=Be I hq;refine⟨[a],fun b hb=>?_,?_⟩
  ·cases List.mem_singleton.mp hb;exact⟨_,_,.dict e1 e2 e3 .nil .nil,Nat.le_refl _⟩
  ·have:=ReprK.dict (prog:=X.prog) (w:=X.w) (as:=[]) (d:=0) (ps:=[]) e1 e2 e3 e4 (by intro z;cases z) .nil;simp only[PyData.shown,PyData.depth,PyData.shownKv,PyData.depthKv];exact this
 | _,_,_,.dcs (a:=a) y i hq,r,sh,z=>by
  cases r;obtain⟨o,es,n,t,u,q,e1,e2,e3,e4,e5⟩:=Bf I hq;have ky:(reprText y).length<=sizeLine:=Nat.le_trans (uQ y i) z;refine⟨[a],fun b hb=>?_,?_⟩
  ·cases List.mem_singleton.mp hb;exact⟨_,_,.dict e1 e2 e3 (by rw[e5];exact .cons (.str y t) .nil) (by rw[e5];exact .cons (.int i u) .nil),Nat.le_refl _⟩
  ·have k1:ReprK X.prog X.w [] s.heap 0 (.str y t) (reprText y):=.of_is (.str y t ky) _ _ _;have k2:ReprK X.prog X.w [] s.heap 0 (.int i u) (PyData.shown (.int i)):=.of_is (by simp only[PyData.shown];exact .int u (Cr sh)) _ _ _;have:=ReprK.dict (prog:=X.prog) (w:=X.w) (as:=[]) (d:=0) (ps:=_) e1 e2 e3 e4 (by intro z;cases z) (by rw[e5];exact .cons k1 k2 .nil);simp only[PyData.shown,PyData.depth,PyData.shownKv,PyData.depthKv];exact this
theorem cW.says {pins:Pn} {σ:St} {H:Hp} {s:Shared} (I:Inv X pins σ H s):∀ {xs:List V} {ds:List PyData} {us:Lv0},cW X.K H xs ds->Vals xs us->PyData.showableAll ds=true->(∀ t∈PyData.shownAll ds,t.length<=sizeLine)->IH X s.heap us ds
 | _,_,_,.nil,.nil,_,_=>⟨[],by (intro _ z;cases z),.nil⟩
 | _,_,_,.cons (d:=d) (ds:=ds) h1 h2,.cons r1 r2,q,z=>by
  simp only[PyData.showableAll,Bool.and_eq_true] at q;simp only[PyData.shownAll,List.mem_cons,forall_eq_or_imp] at z;obtain⟨as,a1,a2⟩:=Dt.says I h1 r1 q.1 z.1;obtain⟨bs,b1,b2⟩:=cW.says I h2 r2 q.2 z.2;have l1:d.depth<=PyData.depthAll (d::ds):=by simp only[PyData.depthAll];exact Nat.le_max_left _ _
  have l2:PyData.depthAll ds<=PyData.depthAll (d::ds):=by simp only[PyData.depthAll];exact Nat.le_max_right _ _
  exact⟨as++bs,(a1.mono l1).append (b1.mono l2),.cons ((a2.more fun _ h=>List.mem_append_left _ h).level_le l1) (b2.more_le (fun _ h=>List.mem_append_right _ h) l2)⟩
end
theorem Bm {k:Nat} (hr:bN k X.A):bV X (.builtin "repr") (fun xs H Q=>∃ a d,xs=[.ref a]/\Dt X.K H (.ref a) d/\Shw d/\Q (.str d.shown) H):=by
 intro pins s σ H xs us Q I r h;obtain⟨a,d,rfl,hd,S,q⟩:=h;obtain⟨u,rfl,ru⟩:=vals1 r;cases ru;have lu:X.A.units + (d.depth + 1) < cLine:=by have:=hr.units;have:=S.dp;omega
 have fin:∀ h' u tk,(∀ b o,s.heap.get? b=some o->h'.get? b=some o)->∃ x t,Value.str d.shown u=.str x t/\EP X pins σ Q (.str d.shown u) { s with heap:=h',toks:=tk }:=fun h' u tk hk=>⟨_,_,rfl,.str d.shown,H,I.kept hk,⟨_,rfl⟩,q⟩;have sh:=S.sh;have sz:=S.sz;cases hd with
 | @lst _ xs ds hq hs=>
  obtain⟨its,rv,⟨o,n,e1,e2,e3,e4⟩,_⟩:=I.list hq;obtain⟨as,ra⟩:=cW.reads I hs rv;have rd:Reads s.heap (.ref a) (.list ds) _:=.list e1 e2 e4 (by simpa using ra);simp only[PyData.shown] at sz fin;simp only[PyData.depth] at lu;obtain⟨bs,b1,b2⟩:=cW.says I hs rv (by simpa [PyData.showable] using sh) fun t ht=>Nat.le_trans (listText_mem_le ht) sz;have na:=not_mem_of_deeper rd (n:=PyData.depthAll ds) (by simp only[PyData.depth];omega) b1;refine call_repr_slot (by omega) ⟨o,e1,e2⟩ F.slot_list_repr.toG ?_;cases its with
  | nil=>cases rv;cases hs;simp only[PyData.shownAll,listText_nil] at fin;exact call_list_repr_empty ⟨o,e1,e2⟩ e1 e4 (fin s.heap _ _ fun _ _ e=>e)
  | cons y ys=>exact call_list_reprK e1 e2 e4 na (by rw[b2.length_eq];simp) (fun i v e=>b2.item i v (by simpa using e)) hr.gd (fun b _=>Clear.nil b) (by show X.A.units + 1 + _ < _;omega) (fun _ _ e=>e) fin sz
 | @tup _ xs ds hq hs=>
  obtain⟨its,rv,⟨o,e1,e2,n,e4⟩,_⟩:=I.tuple hq;obtain⟨as,ra⟩:=cW.reads I hs rv;have rd:Reads s.heap (.ref a) (.tuple ds) _:=.tuple e1 e2 e4 (by simpa using ra);simp only[PyData.shown] at sz fin;simp only[PyData.depth] at lu;obtain⟨bs,b1,b2⟩:=cW.says I hs rv (by simpa [PyData.showable] using sh) fun t ht=>Nat.le_trans (tupleText_mem_le ht) sz;have na:=not_mem_of_deeper rd (n:=PyData.depthAll ds) (by simp only[PyData.depth];omega) b1;exact call_repr_slot (by omega) ⟨o,e1,e2⟩ F.slot_tuple_repr (call_tuple_reprK e1 e2 e4 na (by simpa using b2) hr.gd (fun b _=>Clear.nil b) (by show X.A.units + 1 + _ < _;omega) (fun _ _ e=>e) fin sz)
 | dct hq=>
  obtain⟨o,n,e1,e2,e3,e4⟩:=Be I hq;simp only[PyData.shown,PyData.shownKv] at sz fin;simp only[PyData.depth,PyData.depthKv] at lu;exact call_repr_slot (by omega) ⟨o,e1,e2⟩ F.slot_dict_repr (call_dict_reprK (as:=[]) (d:=0) (ps:=[]) e1 e2 e3 e4 (by intro z;cases z) .nil hr.gd (fun b _=>Clear.nil b) (by show X.A.units + 1 + _ < _;omega) (fun _ _ e=>e) fin sz)
 | dcs y i hq=>
  obtain⟨o,es,n,t,u,q,e1,e2,e3,e4,e5⟩:=Bf I hq;have ky:(reprText y).length<=sizeLine:=Nat.le_trans (uQ y i) sz;have k1:ReprK X.prog X.w [] s.heap 0 (.str y t) (reprText y):=.of_is (.str y t ky) _ _ _;have k2:ReprK X.prog X.w [] s.heap 0 (.int i u) (PyData.shown (.int i)):=.of_is (by simp only[PyData.shown];exact .int u (Cr sh)) _ _ _;simp only[PyData.shown,PyData.shownKv] at sz fin;simp only[PyData.depth,PyData.depthKv] at lu;exact call_repr_slot (by omega) ⟨o,e1,e2⟩ F.slot_dict_repr (call_dict_reprK (as:=[]) (d:=0) e1 e2 e3 e4 (by intro z;cases z) (by rw[e5];exact .cons k1 k2 .nil) hr.gd (fun b _=>Clear.nil b) (by show X.A.units + 1 + _ < _;omega) (fun _ _ e=>e) fin sz)
end
section
variable {X:Cx} {pins:Pn} {σ:St} {H:Hp} {s:Shared}
theorem Inv.moved {ch:La0} {h':Heap} {t':Nat} (I:Inv X pins σ H s) (hch:∀ b∈ch,e7 X pins H b) (hk:∀ b o,b∉ch->s.heap.get? b=some o->h'.get? b=some o):Inv X pins σ H { s with heap:=h',toks:=t' }:=by
 have nt:∀ {b:Addr} {u:HO},H b=some u->b∉ch:=fun e hb=>by rw[(hch _ hb).1] at e;cases e
 refine I.step (g':=s.gens) (d':=s.drawn) (ch:=ch) (fun b hb=>⟨(hch b hb).2.2.2.1,(hch b hb).2.1,(hch b hb).2.2.2.2.1,(hch b hb).2.2.2.2.2⟩) (fun b o _ _ hc e _=>hk b o hc e) (fun b o _ _ hc e _=>⟨o.slots,hk b o hc e⟩) (fun _ _ _ _ n=>n)
  (fun b o hc e=>⟨o,hk b o hc e⟩) (fun _ _ e=>e) (fun _ _ _ e=>e) (fun b ps e=>⟨#[],by rw[e];simp⟩) (fun m hm=>?_) (fun b u e=>?_) I.bare
 ·obtain⟨o,es,ep,ho,r⟩:=hm;exact⟨o,es,ep,hk _ o (fun hb=>(hch _ hb).2.1 rfl) ho,r⟩
 ·exact(I.hok b u e).tu (fun c v hc q=>hk c v (by rcases hc with z | z <;> first | (rw[z];exact nt e) | exact nt z) q) (fun _ q=>q) fun _ _ q=>q
theorem Inv.so {ch:La0} {T:Addr} {x y:V} {u v:Value} {h':Heap} {t':Nat} (I:Inv X pins σ H s) (hch:∀ b∈ch,e7 X pins H b) (hT:s.heap.objs.size<=T)
  (hk:∀ b o,b∉ch->s.heap.get? b=some o->h'.get? b=some o) (ht:IsTup h' T #[u,v]) (ru:RelV x u) (rv:RelV y v):Inv X pins σ (upd H T (.tup [x,y])) { s with heap:=h',toks:=t' }:=by
 have nt:∀ {b:Addr} {u:HO},H b=some u->b∉ch:=fun e hb=>by rw[(hch _ hb).1] at e;cases e
 have fT:H T=none:=I.hok.fresh hT;have neT:∀ {b:Addr} {o:Obj},s.heap.get? b=some o->b≠T:=fun e=>Nat.ne_of_lt (Nat.lt_of_lt_of_le (Heap.lt_size e) hT);have neH:∀ {b:Addr} {u:HO},H b=some u->b≠T:=fun e z=>by rw[z,fT] at e;cases e
 refine I.step (g':=s.gens) (d':=s.drawn) (ch:=ch) (fun b hb=>⟨(hch b hb).2.2.2.1,(hch b hb).2.1,(hch b hb).2.2.2.2.1,(hch b hb).2.2.2.2.2⟩) (fun b o _ _ hc e _=>hk b o hc e) (fun b o _ _ hc e _=>⟨o.slots,hk b o hc e⟩) (fun b o _ e n=>by rw[ah (neT e)];exact n)
  (fun b o hc e=>⟨o,hk b o hc e⟩) (fun b xs e=>by rw[ah (neH e)];exact e) (fun b o xs e=>by rw[ah (neH e)];exact e) (fun b ps e=>⟨#[],by rw[ah (neH e),e];simp⟩) (fun m hm=>?_) (fun b o e=>?_) I.bare
 ·obtain⟨o,es,ep,ho,r⟩:=hm;exact⟨o,es,ep,hk _ o (fun hb=>(hch _ hb).2.1 rfl) ho,r⟩
 ·by_cases hb:b=T
  ·subst hb;rw[ar] at e;cases e;exact⟨(by show 2<=sizeLine;decide),[u,v],.cons ru (.cons rv .nil),ht⟩
  ·rw[ah hb] at e;exact(I.hok b o e).tu (fun c w' hc q=>hk c w' (by rcases hc with z | z <;> first | (rw[z];exact nt e) | exact nt z) q) (fun c q=>by rw[ah (neH q)];exact q) (fun c xs q=>by rw[ah (neH q)];exact q) fun c o φ q=>by rw[ah (neH q)];exact q
end
noncomputable def Itz (a b:Addr):It:=
 ⟨fun i H=>∃ xs ys x y,H a=some (.lst xs)/\H b=some (.lst ys)/\xs[i]?=some x/\ys[i]?=some y,
  fun i H v H'=>∃ t xs ys x y,H t=none/\H a=some (.lst xs)/\H b=some (.lst ys)/\xs[i]?=some x/\ys[i]?=some y/\v=.ref t/\H'=upd H t (.tup [x,y]),
  fun i H=>∃ xs ys,H a=some (.lst xs)/\H b=some (.lst ys)/\(xs.length<=i\/ys.length<=i)⟩
def JM (z TI TO i1 i2 l1 l2:Addr) (i:Nat) (h:Heap):Prop:=IsZip h z TI TO .none/\IsPair h TI (.ref i1) (.ref i2)/\(∃ a b,IsPair h TO a b)/\h.IsListIter i1 l1 i/\h.IsListIter i2 l2 i
structure pX (z TI TO i1 i2:Addr):Prop where
 TIz:TI≠z
 TOz:TO≠z
 i1z:i1≠z
 i2z:i2≠z
 TITO:TI≠TO
 TIi1:TI≠i1
 TIi2:TI≠i2
 TOi1:TO≠i1
 TOi2:TO≠i2
 i12:i1≠i2
theorem DS {P:Program} {w:World} {K:Fg0} {es:List Expr} {kt:Nat} {tp:Pos} (z TI TO i1 i2 l1 l2:Addr) (D:pX z TI TO i1 i2) :
  Turn P w K (.Tuple es kt tp) (Itz l1 l2) [z,TI,TO,i1,i2] z (JM z TI TO i1 i2 l1 l2) where
 mem:=by simp
 obj:=fun i h st b hb=>by
  obtain⟨hz,hTI,⟨a,c,hTO⟩,⟨o1,e1,_,d1⟩,⟨o2,e2,_,d2⟩⟩:=st;simp only[List.mem_cons,List.not_mem_nil,or_false] at hb;rcases hb with rfl | rfl | rfl | rfl | rfl
  ·exact⟨_,hz,fun v q=>by cases q⟩
  ·exact⟨_,hTI,fun v q=>by cases q⟩
  ·exact⟨_,hTO,fun v q=>by cases q⟩
  ·exact⟨_,e1,fun v q=>by rw[d1] at q;cases q⟩
  ·exact⟨_,e2,fun v q=>by rw[d2] at q;cases q⟩
 keep:=fun i h h' st k=>by
  obtain⟨hz,hTI,⟨a,c,hTO⟩,h1,h2⟩:=st;exact⟨k z (by simp) _ hz,k TI (by simp) _ hTI,⟨a,c,k TO (by simp) _ hTO⟩,h1.at fun o e=>k i1 (by simp) o e,h2.at fun o e=>k i2 (by simp) o e⟩
 item:=by
  intro X hP hw hK hc i pins s σ H E I hf st hg;subst hP hw hK;obtain⟨xs,ys,x,y,ha,hb,hx,hy⟩:=hg;obtain⟨hz,hTI,⟨a0,b0,hTO⟩,h1,h2⟩:=st;obtain⟨ia,na,ra,ea,_⟩:=I.lst ha;obtain⟨ib,nb,rb,eb,_⟩:=I.lst hb;have nf:∀ b∈[z,TI,TO,i1,i2],H b=none:=fun b hb=>(hf b hb).1;have ne1:∀ b∈[z,TI,TO,i1,i2],l1≠b:=fun b hb e=>by rw[e,nf b hb] at ha;cases ha
  have ne2:∀ b∈[z,TI,TO,i1,i2],l2≠b:=fun b hb' e=>by rw[e,nf b hb'] at hb;cases hb
  have Z:ZipApart z TI TO i1 i2 l1 l2:=⟨D.TIz,D.TOz,D.i1z,D.i2z,D.TITO,D.TIi1,D.TIi2,D.TOi1,D.TOi2,D.i12,ne1 z (by simp),ne1 TO (by simp),ne1 i1 (by simp),ne1 i2 (by simp),ne2 z (by simp),ne2 TO (by simp),ne2 i1 (by simp),ne2 i2 (by simp)⟩;obtain⟨u,hu,ru⟩:=ra.get hx;obtain⟨v,hv,rv⟩:=rb.get hy;refine wpAny_pyNext_zip_item Z hz hTI hTO h1 h2 (xs:=ia.toArray) (ys:=ib.toArray) ⟨_,ea,rfl,_,rfl⟩ ⟨_,eb,rfl,_,rfl⟩ (x:=u) (y:=v) (by simpa using hu) (by simpa using hv) fun h' a1 a2 a3 a4 a5 a6 hk=>?_;refine⟨_,rfl,wpAny_letOwnedTupleGo_zip a1 fun h2' hz' hs'=>?_⟩;have zT:s.heap.objs.size≠z:=Nat.ne_of_gt (Heap.lt_size hz);refine⟨.ref s.heap.objs.size,upd H s.heap.objs.size (.tup [x,y]),?_,rfl,⟨_,xs,ys,x,y,I.hok.fresh (Nat.le_refl _),ha,hb,hx,hy,rfl,rfl⟩,?_,fun b hb'=>?_⟩
  ·refine I.so (t':=s.toks) (ch:=[z,TO,i1,i2]) (u:=u) (v:=v) (fun b hb'=>hf b (by simp at hb' ⊢;rcases hb' with e | e | e | e <;> simp [e])) (Nat.le_refl _) (fun b o hb' e=>?_) ⟨_,hs'.extBut _ _ zT a5,rfl,_,rfl⟩ ru rv;simp only[List.mem_cons,List.not_mem_nil,or_false,not_or] at hb';exact hs'.extBut b o hb'.1 (hk b o hb'.1 hb'.2.1 hb'.2.2.1 hb'.2.2.2 e)
  ·exact⟨hz',hs'.extBut _ _ D.TIz (hk _ _ D.TIz D.TITO D.TIi1 D.TIi2 hTI),⟨_,_,hs'.extBut _ _ D.TOz a2⟩,a3.extBut hs'.extBut D.i1z,a4.extBut hs'.extBut D.i2z⟩
  ·rw[ah]
   ·exact nf b hb'
   ·have hlt:∃ o,s.heap.get? b=some o:=by
     obtain⟨o1,e1,_⟩:=h1;obtain⟨o2,e2,_⟩:=h2;simp only[List.mem_cons,List.not_mem_nil,or_false] at hb';rcases hb' with rfl | rfl | rfl | rfl | rfl
     ·exact⟨_,hz⟩
     ·exact⟨_,hTI⟩
     ·exact⟨_,hTO⟩
     ·exact⟨_,e1⟩
     ·exact⟨_,e2⟩
    obtain⟨o,e⟩:=hlt;exact Nat.ne_of_lt (Heap.lt_size e)
 done:=by
  intro X hP hw hK hc i pins s σ H E I hf st hg;subst hP hw hK;obtain⟨xs,ys,ha,hb,hl⟩:=hg;obtain⟨hz,hTI,⟨a0,b0,hTO⟩,h1,h2⟩:=st;obtain⟨ia,na,ra,ea,_⟩:=I.lst ha;obtain⟨ib,nb,rb,eb,_⟩:=I.lst hb;have nf:∀ b∈[z,TI,TO,i1,i2],H b=none:=fun b hb=>(hf b hb).1;have ne1:∀ b∈[z,TI,TO,i1,i2],l1≠b:=fun b hb e=>by rw[e,nf b hb] at ha;cases ha
  have ne2:∀ b∈[z,TI,TO,i1,i2],l2≠b:=fun b hb' e=>by rw[e,nf b hb'] at hb;cases hb
  have Z:ZipApart z TI TO i1 i2 l1 l2:=⟨D.TIz,D.TOz,D.i1z,D.i2z,D.TITO,D.TIi1,D.TIi2,D.TOi1,D.TOi2,D.i12,ne1 z (by simp),ne1 TO (by simp),ne1 i1 (by simp),ne1 i2 (by simp),ne2 z (by simp),ne2 TO (by simp),ne2 i1 (by simp),ne2 i2 (by simp)⟩;have la:=ra.length;have lb:=rb.length;refine wpAny_pyNext_zip_end (I.ok.hd hc) Z hz hTI hTO h1 h2 (xs:=ia.toArray) (ys:=ib.toArray) ⟨_,ea,rfl,_,rfl⟩ ⟨_,eb,rfl,_,rfl⟩ ?_ fun h' hk=>⟨rfl,I.moved (t':=s.toks) (ch:=[z,TO,i1,i2]) (fun b hb'=>hf b (by simp at hb' ⊢;rcases hb' with e | e | e | e <;> simp [e])) fun b o hb' e=>?_⟩
  ·rcases hl with hl | hl
   ·left;simp;omega
   ·right;simp;omega
  ·simp only[List.mem_cons,List.not_mem_nil,or_false,not_or] at hb';exact hk b o hb'.1 hb'.2.1 hb'.2.2.1 hb'.2.2.2 e
 self:=fun _ _ _ _ _ st h=>wpAny_pyIter_zip st.1 h
section
variable {X:Cx}
def MO (ta:TA):TI:=fun σ H R=>ta σ H fun vs H1=>∃ (p q:Addr) (xs ys:List V),vs=[.ref p,.ref q]/\H1 p=some (.lst xs)/\H1 q=some (.lst ys)/\R (Itz p q) H1
theorem Ks {a b:Expr} {ta:TA} {es:List Expr} {kt:Nat} {tp p pos:Pos} (hg:Gl X "zip") (hm:X.mg "zip"=none) (ha:PA X [a,b] ta) (hs:autoParam (starEach [a,b] X.env=[(false,eval a X.env),(false,eval b X.env)]) r0) (hs2:autoParam (starEach [b] X.env=[(false,eval b X.env)]) r0) :
  PI X (.Tuple es kt tp) (.Call (.Name "zip" p) [a,b] [] pos) (MO ta):=by
 intro pins s σ H R I h;refine Call_ (jL I hg hm (by decide +kernel:bootBuiltins "zip"=some (.type "zip")) (PyProof.Rows.callWith_type1 (thn (ha pos pins s σ H _ I h) fun us s1 ⟨vs,H1,I1,r1,q1⟩=>?_) (by rw[hs,hs2]) (by rw[hs2];rfl)));obtain⟨l1,l2,xs,ys,e,h1,h2,q⟩:=q1;subst e;obtain⟨u,w',rfl,ru,rw'⟩:=vals2 r1;cases ru;cases rw';obtain⟨ia,na,ra,ea,_⟩:=I1.lst h1;obtain⟨ib,nb,rb,eb,_⟩:=I1.lst h2;refine call_zip_2 (xs:=ia.toArray) (ys:=ib.toArray) ⟨_,ea,rfl,_,rfl⟩ ⟨_,eb,rfl,_,rfl⟩ fun h' hz hTI hTO hi1 hi2 hsz hk=>wpAny_pyIter_zip hz ?_;have I2:Inv X pins σ H1 { s1 with heap:=h' }:=I1.kept (t':=s1.toks) hk;have lt:∀ i j:Nat,i < j->s1.heap.objs.size + i≠s1.heap.objs.size + j:=fun i j h e=>by omega
 have D:pX (s1.heap.objs.size + 4) (s1.heap.objs.size + 2) (s1.heap.objs.size + 3) s1.heap.objs.size (s1.heap.objs.size + 1):=
  ⟨lt 2 4 (by decide),lt 3 4 (by decide),lt 0 4 (by decide),lt 1 4 (by decide),lt 2 3 (by decide),(lt 0 2 (by decide)).symm,(lt 1 2 (by decide)).symm,(lt 0 3 (by decide)).symm,(lt 1 3 (by decide)).symm,lt 0 1 (by decide)⟩
 refine⟨_,_,_,_,H1,rfl,I2,DS _ _ _ _ _ l1 l2 D,⟨hz,hTI,⟨_,_,hTO⟩,hi1,hi2⟩,fun b hb=>?_,q⟩;have hge:s1.heap.objs.size<=b:=by
  simp only[List.mem_cons,List.not_mem_nil,or_false] at hb;rcases hb with rfl | rfl | rfl | rfl | rfl <;> omega
 exact I1.qu hge (I1.hok.fresh hge)
end
noncomputable def Ite (a:Addr):It:=
 ⟨fun i H=>∃ xs x,H a=some (.lst xs)/\xs[i]?=some x,
  fun i H v H'=>∃ t xs x,H t=none/\H a=some (.lst xs)/\xs[i]?=some x/\v=.ref t/\H'=upd H t (.tup [.int i,x]),
  fun i H=>∃ xs,H a=some (.lst xs)/\xs.length<=i⟩
def NW (e it l:Addr) (i:Nat) (h:Heap):Prop:=(∃ old,IsEnum h e it i old)/\h.IsListIter it l i
theorem CL {P:Program} {w:World} {K:Fg0} {es:List Expr} {kt:Nat} {tp:Pos} (e it l:Addr) (D:e≠it):Turn P w K (.Tuple es kt tp) (Ite l) [e,it] e (NW e it l) where
 mem:=by simp
 obj:=fun i h st b hb=>by
  obtain⟨⟨old,he⟩,⟨o1,e1,_,d1⟩⟩:=st;simp only[List.mem_cons,List.not_mem_nil,or_false] at hb;rcases hb with rfl | rfl
  ·exact⟨_,he,fun v q=>by cases q⟩
  ·exact⟨_,e1,fun v q=>by rw[d1] at q;cases q⟩
 keep:=fun i h h' st k=>by
  obtain⟨⟨old,he⟩,h1⟩:=st;exact⟨⟨old,k e (by simp) _ he⟩,h1.at fun o e=>k it (by simp) o e⟩
 item:=by
  intro X hP hw hK hc i pins s σ H E I hf st hg;subst hP hw hK;obtain⟨xs,x,ha,hx⟩:=hg;obtain⟨⟨old,he⟩,h1⟩:=st;obtain⟨ia,na,ra,ea,_⟩:=I.lst ha;have nf:∀ b∈[e,it],H b=none:=fun b hb=>(hf b hb).1;obtain⟨u,hu,ru⟩:=ra.get hx;refine wpAny_pyNext_enum_item he h1 (items:=ia.toArray) ⟨_,ea,rfl,_,rfl⟩ (x:=u) (by simpa using hu) D fun h' a1 a2 a3 a4 hk=>?_;refine⟨_,rfl,wpAny_letOwnedTupleGo_enum a1 fun h2' he' hs'=>?_⟩;have eT:s.heap.objs.size≠e:=Nat.ne_of_gt (Heap.lt_size he);refine⟨.ref s.heap.objs.size,upd H s.heap.objs.size (.tup [.int i,x]),?_,rfl,⟨_,xs,x,I.hok.fresh (Nat.le_refl _),ha,hx,rfl,rfl⟩,?_,fun b hb'=>?_⟩
  ·refine I.so (t':=s.toks + 1) (ch:=[e,it]) (u:=.int i s.toks) (v:=u) hf (Nat.le_refl _) (fun b o hb' q=>?_) ⟨_,hs'.extBut _ _ eT a3,rfl,_,rfl⟩ ⟨_,rfl⟩ ru;simp only[List.mem_cons,List.not_mem_nil,or_false,not_or] at hb';exact hs'.extBut b o hb'.1 (hk b o hb'.1 hb'.2 q)
  ·exact⟨⟨_,by simpa using he'⟩,a2.extBut hs'.extBut (Ne.symm D)⟩
  ·rw[ah]
   ·exact nf b hb'
   ·have hlt:∃ o,s.heap.get? b=some o:=by
     obtain⟨o1,e1,_⟩:=h1;simp only[List.mem_cons,List.not_mem_nil,or_false] at hb';rcases hb' with rfl | rfl
     ·exact⟨_,he⟩
     ·exact⟨_,e1⟩
    obtain⟨o,q⟩:=hlt;exact Nat.ne_of_lt (Heap.lt_size q)
 done:=by
  intro X hP hw hK hc i pins s σ H E I hf st hg;subst hP hw hK;obtain⟨xs,ha,hl⟩:=hg;obtain⟨⟨old,he⟩,h1⟩:=st;obtain⟨ia,na,ra,ea,_⟩:=I.lst ha;have la:=ra.length;exact wpAny_pyNext_enum_end (I.ok.hd hc) he h1 (items:=ia.toArray) ⟨_,ea,rfl,_,rfl⟩ (by simp;omega) fun h' hk=>⟨rfl,I.moved (t':=s.toks) (ch:=[it]) (fun b hb'=>hf b (by simp at hb' ⊢;simp [hb'])) fun b o hb' q=>hk b o (fun z=>hb' (by simp [z])) q⟩
 self:=fun _ _ _ _ _ st h=>by obtain⟨⟨old,he⟩,_⟩:=st;exact wpAny_pyIter_enum he h
section
variable {X:Cx}
def Jv (ta:TA):TI:=fun σ H R=>ta σ H fun vs H1=>∃ (p:Addr) (xs:List V),vs=[.ref p]/\H1 p=some (.lst xs)/\R (Ite p) H1
theorem Hq {a:Expr} {ta:TA} {es:List Expr} {kt:Nat} {tp p pos:Pos} (hg:Gl X "enumerate") (hm:X.mg "enumerate"=none) (ha:PA X [a] ta) (hs:autoParam (starEach [a] X.env=[(false,eval a X.env)]) r0) :
  PI X (.Tuple es kt tp) (.Call (.Name "enumerate" p) [a] [] pos) (Jv ta):=by
 intro pins s σ H R I h;refine Call_ (jL I hg hm (by decide +kernel:bootBuiltins "enumerate"=some (.type "enumerate")) (PyProof.Rows.callWith_type1 (thn (ha pos pins s σ H _ I h) fun us s1 Z=>?_) hs rfl));obtain⟨vs,H1,I1,r1,q1⟩:=Z;obtain⟨l,xs,e,h1,q⟩:=q1;subst e;obtain⟨u,rfl,ru⟩:=vals1 r1;cases ru;obtain⟨ia,na,ra,ea,_⟩:=I1.lst h1;refine call_enumerate_1 ea fun h' he hi hsz hk=>wpAny_pyIter_enum he ?_;have I2:Inv X pins σ H1 { s1 with heap:=h' }:=I1.kept (t':=s1.toks) hk;refine⟨_,_,_,_,H1,rfl,I2,CL _ _ l (Nat.succ_ne_self _),⟨⟨_,by simpa using he⟩,hi⟩,fun b hb=>?_,q⟩;have hge:s1.heap.objs.size<=b:=by
  simp only[List.mem_cons,List.not_mem_nil,or_false] at hb;rcases hb with rfl | rfl <;> omega
 exact I1.qu hge (I1.hok.fresh hge)
noncomputable def kN (xs:List V) (lo hi st:Option Int):List V:=
 (sliceRange (sliceBounds lo hi st xs.length).1 (sliceBounds lo hi st xs.length).2.1 (sliceBounds lo hi st xs.length).2.2).filterMap (xs[·]?)
theorem Vals.places:∀ {xs:List V} {us:Lv0},Vals xs us->∀ js:List Nat,Vals (js.filterMap (xs[·]?)) (js.filterMap (us[·]?))
 | _,_,_,[]=>.nil
 | xs,us,h,j::js=>by
  have ih:=Vals.places h js;cases hn:xs[j]? with
  | some x=>
   obtain⟨u,hu,r⟩:=h.get hn;simp only[List.filterMap_cons,hn,hu];exact .cons r ih
  | none=>
   have hv:=h.none_of hn;simp only[List.filterMap_cons,hn,hv];exact ih
def LG (K:Fg0) (te:TE) (tl th ts:TO):TE:=fun σ H Q=>te σ H fun x H1=>tl σ H1 fun l H2=>th σ H2 fun u H3=>ts σ H3 fun k H4=>k≠some 0/\∃ a xs,x=.ref a/\SqL K H4 a xs/\∀ p,H4 p=none->Q (.ref p) (upd H4 p (.lst (kN xs l u k)))
theorem C5 {e:Expr} {te:TE} {lo hi:Option Expr} {st:Expr} {tl th ts:TO} {p2 pos:Pos} (he:PE X e te) (hl:PO X lo tl) (hu:PO X hi th) (hs:PO X (some st) ts):PE X (.Subscript e (.Slice lo hi (some st) p2) pos) (LG X.K te tl th ts):=by
 intro pins s σ H Q I h;refine Subscript_ (thn (he pins s σ H _ I h) fun v s1 Z=>?_);obtain⟨x,H1,I1,r1,q1⟩:=Z;refine wpAny_Slice (thn (hl pins s1 σ H1 _ I1 q1) fun vl s2 ⟨l,H2,I2,pl,q2⟩=>thn (hu pins s2 σ H2 _ I2 q2) fun vu s3 ⟨u,H3,I3,pu,q3⟩=>thn (hs pins s3 σ H3 _ I3 q3) fun vk s4 Z=>?_);obtain⟨k,H4,I4,pk,q4⟩:=Z;obtain⟨k0,a,xs,rfl,hx,q⟩:=q4;cases r1;have I5:Inv X pins σ H4 { s4 with heap:=s4.heap.push { cls:=.type "slice",data:=.fields #[vl,vu,vk] } }:=I4.kept (t':=s4.toks) fun b ob q=>Heap.get?_push_of_some _ q;obtain⟨its,r,ht,hz⟩:=I5.list hx;have hlen:=r.length;show wpAny (model X.prog X.w) X.A (subscriptTail e (.Slice lo hi (some st) p2) (.ref a) (.ref s4.heap.objs.size)) (EP X pins σ Q) X.xe { s4 with heap:=s4.heap.push { cls:=.type "slice",data:=.fields #[vl,vu,vk] } };refine tail_any (ops:=[.ref a,.ref s4.heap.objs.size]) ht.isList.typeIs slot_list_getitem.lookup (wpAny_getItem_list_slice ht.isList (Heap.IsSliceOf.new ..) pl pu pk k0 ?_ (by rw[List.size_toArray] <;> omega)) (by with_unfolding_all rfl);refine⟨.ref _,_,I5.laid (t':=s4.toks) (o:=.lst (kN xs l u k)) (fun b ob q=>Heap.get?_push_of_some _ q) (Nat.le_refl _) ?_,rfl,q _ (I5.hok.fresh (Nat.le_refl _))⟩;have rp:Vals (kN xs l u k) (slicePick its.toArray l u k).toList:=by
  have e:(slicePick its.toArray l u k).toList=(sliceRange (sliceBounds l u k xs.length).1 (sliceBounds l u k xs.length).2.1 (sliceBounds l u k xs.length).2.2).filterMap (its[·]?):=by
   simp [slicePick,hlen]
  rw[e];exact r.places _
 have hsz:=slicePick_size_le its.toArray l u k;have h2:=rp.length;simp only[Array.length_toList,List.size_toArray] at h2 hsz;exact⟨by omega,_,0,rp,Heap.get?_push_size _ rfl⟩
end
abbrev g9 (h:Heap) (z TI TO T:Addr) (f:Bool):Prop:=h.get? z=some { cls:=.type "zip",dict:=none,data:=.fields #[rawInt T,.bool f,.bool false,.ref TI,.ref TO],slots:=#[] }
section
variable {prog:Program} {w:World} {A:Around} {E:VS} {s:Shared}
theorem DK {M:Model} {a:Addr} {Q:Option Obj->Shared->Prop} (h:Q (s.heap.get? a) s):wpAny M A (loadIfAlive a) Q E s:=fun Γ p hΓ=>by
 unfold loadIfAlive;rw[Sem.wp_loadIfAlive];exact h
theorem Cm {z TI TO T:Addr} {f:Bool} {ob:Obj} {Q:Bool->Shared->Prop} (hzf:g9 s.heap z TI TO T f) (hT:s.heap.get? T=some ob) (h:∀ h',g9 h' z TI TO T true->Heap.SameBut z s.heap h'->Q false { s with heap:=h' }) :
  wpAny (model prog w) A (Builtin.SmallTypes.ownedTupleIsFree (.ref z)) Q E s:=by
 unfold Builtin.SmallTypes.ownedTupleIsFree;refine wpAny_bind (wpAny_field hzf rfl (x:=rawInt T) rfl ?_);show wpAny _ _ (loadIfAlive ((T:Int).toNat) >>= _) _ _ _;have eT:((T:Nat):Int).toNat=T:=Int.toNat_natCast T;rw[eT];refine wpAny_bind (DK ?_);rw[hT];show wpAny _ _ (field (.ref z) 1 >>= _) _ _ _;refine wpAny_bind (wpAny_field hzf rfl (x:=.bool f) rfl ?_);cases f with
 | true=>exact wpAny_pure (h _ hzf (.refl ..))
 | false=>
  show wpAny _ _ (setField (.ref z) 1 (.bool true) >>= fun _=>pure false) _ _ _;exact wpAny_bind (wpAny_setField_rec hzf (by simp) fun h' hz' hs'=>wpAny_pure (h h' hz' hs'))
theorem DO {z TI TO i1 i2 l1 l2 T:Addr} {f:Bool} {ob:Obj} {k1 k2:Nat} {xs ys:Array Value} {x y:Value} {Q:VS} (D:ZipApart z TI TO i1 i2 l1 l2) (hzf:g9 s.heap z TI TO T f)
  (hTI:IsPair s.heap TI (.ref i1) (.ref i2)) (hT:s.heap.get? T=some ob) (h1:s.heap.IsListIter i1 l1 k1) (h2:s.heap.IsListIter i2 l2 k2) (hl1:s.heap.IsList l1 xs) (hl2:s.heap.IsList l2 ys) (hx:xs[k1]?=some x) (hy:ys[k2]?=some y)
  (hQ:∀ h',g9 h' z TI TO T true->h'.IsListIter i1 l1 (k1 + 1)->h'.IsListIter i2 l2 (k2 + 1)->IsPair h' s.heap.objs.size x y->(∀ c o,c≠z->c≠i1->c≠i2->s.heap.get? c=some o->h'.get? c=some o)->Q (.ref s.heap.objs.size) { s with heap:=h' }) :
  wpAny (model prog w) A (Builtin.«zip.__next__» ⟨[.ref z],[]⟩) (fun fin s'=>∃ v,fin=.done (.ret v)/\Q v s') E s:=by
 show wpAny _ _ (field (.ref z) 2 >>= fun a=>_) _ _ _;refine wpAny_bind (wpAny_field hzf rfl (x:=.bool false) rfl ?_);show wpAny _ _ (field (.ref z) 3 >>= fun a=>_) _ _ _;refine wpAny_bind (wpAny_field hzf rfl (x:=.ref TI) rfl (wpAny_bind (wpAny_seqItems hTI rfl ?_)));show wpAny _ _ (Builtin.SmallTypes.ownedTupleIsFree (.ref z) >>= fun a=>_) _ _ _;refine wpAny_bind (Cm hzf hT fun g1 hz1 sb1=>?_);simp only[Bool.false_eq_true,if_false];have ht1:g1.IsListIter i1 l1 k1:=h1.extBut sb1.extBut D.i1z;have ht2:g1.IsListIter i2 l2 k2:=h2.extBut sb1.extBut D.i2z;have hL1:g1.IsList l1 xs:=hl1.extBut sb1.extBut D.l1z;have hL2:g1.IsList l2 ys:=hl2.extBut sb1.extBut D.l2z;rw[List.forIn_toArray];refine wpAny_bind ?_;rw[List.forIn_cons];refine wpAny_bind (wpAny_bind (wpAny_holding ?_));show wpAny _ _ (Builtin.SmallTypes.nextOf (.ref i1) >>= fun v=>pure (some v)) _ _ _;refine wpAny_bind (wpAny_nextOf_list_item ht1 hL1 hx fun g2 hi1 sb2=>wpAny_pure (wpAny_pure ?_));show wpAny _ _ (forIn [Value.ref i2] _ _) _ _ _;rw[List.forIn_cons];refine wpAny_bind (wpAny_bind (wpAny_holding ?_));show wpAny _ _ (Builtin.SmallTypes.nextOf (.ref i2) >>= fun v=>pure (some v)) _ _ _;refine wpAny_bind (wpAny_nextOf_list_item (ht2.extBut sb2.extBut D.i12.symm) (hL2.extBut sb2.extBut D.l2i1) hy fun g3 hi2 sb3=>wpAny_pure (wpAny_pure ?_));show wpAny _ _ (forIn ([]:Lv0) _ _) _ _ _;rw[List.forIn_nil];refine wpAny_pure ?_;show wpAny _ _ (newTuple [x,y] >>= fun t=>ret t) _ _ _;refine wpAny_bind (wpAny_newTuple (wpAny_pure ⟨_,rfl,?_⟩));have hsz:g3.objs.size=s.heap.objs.size:=by rw[sb3.1,sb2.1,sb1.1]
 have hz3:g9 g3 z TI TO T true:=sb3.extBut _ _ D.i2z.symm (sb2.extBut _ _ D.i1z.symm hz1);have hq:=hQ (g3.push { cls:=.type "tuple",data:=.seq #[x,y] }) (Heap.get?_push_of_some _ hz3) ((hi1.extBut sb3.extBut D.i12).at fun o e=>Heap.get?_push_of_some _ e) (hi2.at fun o e=>Heap.get?_push_of_some _ e)
  (by rw[<- hsz];exact Heap.get?_push_size _ rfl) fun c o c1 c2 c3 e=>Heap.get?_push_of_some _ (sb3.extBut _ _ c3 (sb2.extBut _ _ c2 (sb1.extBut _ _ c1 e)))
 rw[<- hsz] at hq;exact hq
theorem De {z TI TO i1 i2 l1 l2 T:Addr} {f:Bool} {ob:Obj} {k1 k2:Nat} {xs ys:Array Value} {x y:Value} {Q:Option Value->Shared->Prop} (D:ZipApart z TI TO i1 i2 l1 l2) (hzf:g9 s.heap z TI TO T f)
  (hTI:IsPair s.heap TI (.ref i1) (.ref i2)) (hT:s.heap.get? T=some ob) (h1:s.heap.IsListIter i1 l1 k1) (h2:s.heap.IsListIter i2 l2 k2) (hl1:s.heap.IsList l1 xs) (hl2:s.heap.IsList l2 ys) (hx:xs[k1]?=some x) (hy:ys[k2]?=some y)
  (hQ:∀ h',g9 h' z TI TO T true->h'.IsListIter i1 l1 (k1 + 1)->h'.IsListIter i2 l2 (k2 + 1)->IsPair h' s.heap.objs.size x y->(∀ c o,c≠z->c≠i1->c≠i2->s.heap.get? c=some o->h'.get? c=some o)->Q (some (.ref s.heap.objs.size)) { s with heap:=h' }) :
  wpAny (model prog w) A (pyNext (.ref z)) Q E s:=by
 have hTy:s.TypeIs (.ref z) "zip":=⟨_,hzf,rfl⟩;unfold pyNext;exact wpAny_bind (wpAny_attempt (wpAny_callSpecial?_slot (name:=Str.ofString "__next__") hTy F.slot_zip_next
  (wpAny_call_entry F.slot_zip_next hTy F.entry_zip_next (DO D hzf hTI hT h1 h2 hl1 hl2 hx hy fun h' a1 a2 a3 a4 a5=>wpAny_pure (hQ h' a1 a2 a3 a4 a5)) (F.args_zip_next_1 _))))
theorem DN {z TI TO i1 i2 l1 l2 T:Addr} {f:Bool} {ob:Obj} {k1 k2:Nat} {xs ys:Array Value} {Q:Fin->Shared->Prop} (hh:A.handled=none) (D:ZipApart z TI TO i1 i2 l1 l2) (hzf:g9 s.heap z TI TO T f)
  (hTI:IsPair s.heap TI (.ref i1) (.ref i2)) (hT:s.heap.get? T=some ob) (h1:s.heap.IsListIter i1 l1 k1) (h2:s.heap.IsListIter i2 l2 k2) (hl1:s.heap.IsList l1 xs) (hl2:s.heap.IsList l2 ys) (hend:xs[k1]?=none\/ys[k2]?=none)
  (hE:∀ h' e,(∀ c o,c≠z->c≠i1->c≠i2->s.heap.get? c=some o->h'.get? c=some o)->(∃ o,h'.get? e=some o/\o.cls=.type "StopIteration")->E (.ref e) { s with heap:=h' }) :
  wpAny (model prog w) A (Builtin.«zip.__next__» ⟨[.ref z],[]⟩) Q E s:=by
 show wpAny _ _ (field (.ref z) 2 >>= fun a=>_) _ _ _;refine wpAny_bind (wpAny_field hzf rfl (x:=.bool false) rfl ?_);show wpAny _ _ (field (.ref z) 3 >>= fun a=>_) _ _ _;refine wpAny_bind (wpAny_field hzf rfl (x:=.ref TI) rfl (wpAny_bind (wpAny_seqItems hTI rfl ?_)));show wpAny _ _ (Builtin.SmallTypes.ownedTupleIsFree (.ref z) >>= fun a=>_) _ _ _;refine wpAny_bind (Cm hzf hT fun g1 hz1 sb1=>?_);simp only[Bool.false_eq_true,if_false];have ht1:g1.IsListIter i1 l1 k1:=h1.extBut sb1.extBut D.i1z;have ht2:g1.IsListIter i2 l2 k2:=h2.extBut sb1.extBut D.i2z;have hL1:g1.IsList l1 xs:=hl1.extBut sb1.extBut D.l1z;have hL2:g1.IsList l2 ys:=hl2.extBut sb1.extBut D.l2z;rw[List.forIn_toArray];refine wpAny_bind ?_;rw[List.forIn_cons];refine wpAny_bind (wpAny_bind (wpAny_holding ?_));show wpAny _ _ (Builtin.SmallTypes.nextOf (.ref i1) >>= fun v=>pure (some v)) _ _ _;cases hx:xs[k1]? with
 | none=>
  exact wpAny_bind (wpAny_nextOf_list_end hh ht1 hL1 hx fun h' e hk he=>hE h' e (fun c o c1 c2 c3 q=>hk c o c2 (sb1.extBut _ _ c1 q)) he)
 | some x=>
  have hy:ys[k2]?=none:=by rcases hend with q | q;(rw[hx] at q;cases q);exact q
  refine wpAny_bind (wpAny_nextOf_list_item ht1 hL1 hx fun g2 hi1 sb2=>wpAny_pure (wpAny_pure ?_));show wpAny _ _ (forIn [Value.ref i2] _ _) _ _ _;rw[List.forIn_cons];refine wpAny_bind (wpAny_bind (wpAny_holding ?_));show wpAny _ _ (Builtin.SmallTypes.nextOf (.ref i2) >>= fun v=>pure (some v)) _ _ _;exact wpAny_bind (wpAny_nextOf_list_end hh (ht2.extBut sb2.extBut D.i12.symm) (hL2.extBut sb2.extBut D.l2i1) hy fun h' e hk he=>hE h' e (fun c o c1 c2 c3 q=>hk c o c3 (sb2.extBut _ _ c2 (sb1.extBut _ _ c1 q))) he)
theorem Dd {z TI TO i1 i2 l1 l2 T:Addr} {f:Bool} {ob:Obj} {k1 k2:Nat} {xs ys:Array Value} {Q:Option Value->Shared->Prop} (hh:A.handled=none) (D:ZipApart z TI TO i1 i2 l1 l2) (hzf:g9 s.heap z TI TO T f)
  (hTI:IsPair s.heap TI (.ref i1) (.ref i2)) (hT:s.heap.get? T=some ob) (h1:s.heap.IsListIter i1 l1 k1) (h2:s.heap.IsListIter i2 l2 k2) (hl1:s.heap.IsList l1 xs) (hl2:s.heap.IsList l2 ys) (hend:xs[k1]?=none\/ys[k2]?=none)
  (hQ:∀ h',(∀ c o,c≠z->c≠i1->c≠i2->s.heap.get? c=some o->h'.get? c=some o)->Q none { s with heap:=h' }):wpAny (model prog w) A (pyNext (.ref z)) Q E s:=by
 have hTy:s.TypeIs (.ref z) "zip":=⟨_,hzf,rfl⟩;unfold pyNext;refine wpAny_bind (wpAny_attempt (wpAny_callSpecial?_slot (name:=Str.ofString "__next__") hTy F.slot_zip_next
  (wpAny_call_entry F.slot_zip_next hTy F.entry_zip_next (DN hh D hzf hTI hT h1 h2 hl1 hl2 hend fun h' e hk he=>?_) (F.args_zip_next_1 _))))
 obtain⟨o,ho,hcl⟩:=he;exact wpAny_bind (wpAny_isInstance (T:="StopIteration") (b:=true) ⟨o,ho,hcl⟩ isSubtype_stop (wpAny_pure (hQ _ hk)))
theorem FJ {R:Result->Shared->Prop} {I S:Addr} {res:Value} {n:Nat} (J:Nat->Lv0->Shared->Prop) (hn:n < sizeLine) (hlen:∀ i acc s,J i acc s->acc.length=i)
  (item:∀ i acc s E,i < n->J i acc s->wpAny (model prog w) A.in1 (pyNext (.ref I)) (fun r s'=>∃ v c,r=some v/\s'.heap.get? S=some (bH acc c)/\∀ h',Heap.SameBut S s'.heap h'->h'.get? S=some (bH (acc++[v]) (c + 1))->J (i + 1) (acc++[v]) { s' with heap:=h' }) E s)
  (done:∀ acc s E,J n acc s->wpAny (model prog w) A.in1 (pyNext (.ref I)) (fun r s'=>r=none/\R (.ok (.ret res)) s') E s) :
  ∀ (k i:Nat) (acc:Lv0) (s:Shared),n - i=k->i<=n->J i acc s->codeAny (model prog w) A (.builtin "list.extend.loop" ⟨[.ref S,.ref I,res],[]⟩) R s:=by
 intro k
 induction k with
 | zero=>
  intro i acc s hk hi hJ;obtain rfl:i=n:=by omega
  refine codeAny_builtin F.entry_extend_loop ?_;rw[Around.under_plainId F.plain_extend_loop _];show wpAny _ A.in1 (pyNext (.ref I) >>= fun r=>_) _ _ s;refine wpAny_bind (thn (done acc s _ hJ) fun r s' Z=>?_);obtain⟨hr,q⟩:=Z;subst hr;exact wpAny_pure q
 | succ k ih=>
  intro i acc s hk hi hJ;refine codeAny_builtin F.entry_extend_loop ?_;rw[Around.under_plainId F.plain_extend_loop _];show wpAny _ A.in1 (pyNext (.ref I) >>= fun r=>_) _ _ s;refine wpAny_bind (thn (item i acc s _ (by omega) hJ) fun r s' Z=>?_);obtain⟨v,c,hr,hS,q⟩:=Z;subst hr;have hl:=hlen i acc s hJ;show wpAny _ A.in1 (updateSeq S (·.push v) >>= fun r=>_) _ _ _;have eo:Obj.mapSeq (·.push v) (bH acc c)=bH (acc++[v]) (c + 1):=by
   show Obj.mapSeq (·.push v) { cls:=.type "list",dict:=none,data:=.seq acc.toArray c,slots:=#[] }=_;rw[mapSeq_push,List.push_toArray]
  refine wpAny_bind (wpAny_updateSeq hS rfl (wpAny_pure ⟨plainId_quiet F.plain_extend_loop _,ih (i + 1) (acc++[v]) _ (by omega) (by omega) (q _ (Heap.SameBut.update ..) ?_)⟩) (by rw[List.size_toArray];omega) (by show (acc.toArray.push v).size<=sizeLine + 1;rw[Array.size_push,List.size_toArray];omega));rw[Heap.get?_update_self _ hS (by rw[eo];rfl),eo]
end
theorem CJ:typeLookup (.type "zip") "__len__"=pure none:=by rw[typeLookup_type,builtinLookup_eq_fast];kernel_rfl
theorem Ae:typeLookup (.type "zip") "__length_hint__"=pure none:=by rw[typeLookup_type,builtinLookup_eq_fast];kernel_rfl
section
variable {X:Cx} {pins:Pn} {σ:St} {H:Hp} {s:Shared}
theorem Inv.adopt {S:Addr} {xs:List V} {us:Lv0} {c:Nat} (I:Inv X pins σ H s) (fS:e7 X pins H S) (hS:s.heap.get? S=some (bH us c)) (r:Vals xs us) (hz:xs.length<=sizeLine):Inv X pins σ (upd H S (.lst xs)) s:=by
 have neH:∀ {b:Addr} {u:HO},H b=some u->b≠S:=fun e z=>by rw[z,fS.1] at e;cases e
 refine⟨I.ok,I.os,I.bare,⟨I.base.keep,I.base.slot,fun b o e n hx=>?_,I.base.there,fun b ys e=>?_,fun b o u e=>?_,fun b ps e=>?_⟩,I.loc,I.cell,?_,fun x d e=>?_,fun p hp=>?_,fun b u e=>?_,I.len⟩
 ·have nb:b≠S:=fun z=>by
   rcases fS.2.2.2.1 with q | q
   ·exact hx (by rw[z];exact q)
   ·exact absurd (Nat.lt_of_lt_of_le (Heap.lt_size e) (by rw[z];exact q)) (Nat.lt_irrefl _)
  rw[ah nb];exact I.base.free b o e n hx
 ·have q:=I.base.tups b ys e;rw[ah (neH q)];exact q
 ·have q:=I.base.mq b o u e;rw[ah (neH q)];exact q
 ·obtain⟨m,q⟩:=I.base.tbls b ps e;exact⟨m,by rw[ah (neH q)];exact q⟩
 ·rw[ah (Ne.symm fS.2.1)];exact I.free
 ·rw[ah (fS.2.2.2.2.1 x d e)];exact I.freeC x d e
 ·obtain⟨e1,e2,e3⟩:=I.pin p hp;exact⟨e1,by rw[ah (fS.2.2.2.2.2 p hp)];exact e2,e3⟩
 ·by_cases hb:b=S
  ·subst hb;rw[ar] at e;cases e;exact⟨hz,us,c,r,hS⟩
  ·rw[ah hb] at e;exact(I.hok b u e).tu (fun _ _ _ q=>q) (fun d q=>by rw[ah (neH q)];exact q) (fun d ys q=>by rw[ah (neH q)];exact q) fun d o φ q=>by rw[ah (neH q)];exact q
theorem e7.heap {b:Addr} {H':Hp} (f:e7 X pins H b) (h:H' b=none):e7 X pins H' b:=⟨h,f.2⟩
theorem vN:∀ ts:La0,Vals (ts.map V.ref) (ts.map Value.ref)
 | []=>.nil
 | _::r=>.cons rfl (vN r)
def Nm (H:Hp) (xs ys:List V) (Q:VK):Prop:=∀ (S:Addr) (ts:La0) (H':Hp),H S=none->aB H H'->H' S=some (.lst (ts.map V.ref))->ts.length=min xs.length ys.length->
 (∀ (j:Nat) t x y,ts[j]?=some t->xs[j]?=some x->ys[j]?=some y->H' t=some (.tup [x,y]))->(∀ t∈ts,H t=none)->Q (.ref S) H'
theorem zm {E:VS} {z TI TO i1 i2 l1 l2:Addr} {xs ys:List V} {Q:VK} (D:pX z TI TO i1 i2) (I:Inv X pins σ H s) (hc:X.calm=true) (hf:∀ b∈[z,TI,TO,i1,i2],e7 X pins H b) (st:JM z TI TO i1 i2 l1 l2 0 s.heap)
  (ha:H l1=some (.lst xs)) (hb:H l2=some (.lst ys)) (hn:min xs.length ys.length < sizeLine) (q:Nm H xs ys Q):wpAny (model X.prog X.w) X.A (call (.type "list") [.ref z]) (EP X pins σ Q) E s:=by
 obtain⟨hz,hTI,⟨a0,b0,hTO⟩,h1,h2⟩:=st;obtain⟨S,hSe⟩:∃ S,S=s.heap.objs.size:=⟨_,rfl⟩;have fS:e7 X pins H S:=by rw[hSe];exact I.qu (Nat.le_refl _) (I.hok.fresh (Nat.le_refl _))
 have inS:∀ b∈[z,TI,TO,i1,i2],b < S:=fun b hb'=>by
  have hlt:∃ o,s.heap.get? b=some o:=by
   obtain⟨o1,e1,_⟩:=h1;obtain⟨o2,e2,_⟩:=h2;simp only[List.mem_cons,List.not_mem_nil,or_false] at hb';rcases hb' with rfl | rfl | rfl | rfl | rfl
   ·exact⟨_,hz⟩
   ·exact⟨_,hTI⟩
   ·exact⟨_,hTO⟩
   ·exact⟨_,e1⟩
   ·exact⟨_,e2⟩
  obtain⟨o,e⟩:=hlt;rw[hSe];exact Heap.lt_size e
 have nS:∀ b∈[z,TI,TO,i1,i2],b≠S:=fun b hb'=>Nat.ne_of_lt (inS b hb');have apart:∀ H':Hp,aB H H'->(∀ b∈[z,TI,TO,i1,i2],H' b=none)->ZipApart z TI TO i1 i2 l1 l2:=fun H' sm nf=>by
  have ne1:∀ b∈[z,TI,TO,i1,i2],l1≠b:=fun b hb' e=>by have:=sm _ _ ha;rw[e,nf b hb'] at this;cases this
  have ne2:∀ b∈[z,TI,TO,i1,i2],l2≠b:=fun b hb' e=>by have:=sm _ _ hb;rw[e,nf b hb'] at this;cases this
  exact⟨D.TIz,D.TOz,D.i1z,D.i2z,D.TITO,D.TIi1,D.TIi2,D.TOi1,D.TOi2,D.i12,ne1 z (by simp),ne1 TO (by simp),ne1 i1 (by simp),ne1 i2 (by simp),ne2 z (by simp),ne2 TO (by simp),ne2 i1 (by simp),ne2 i2 (by simp)⟩
 let J:Nat->Lv0->Shared->Prop:=fun i acc s'=>∃ (H':Hp) (ts:La0) (c:Nat),Inv X pins σ H' s'/\acc=ts.map Value.ref/\ts.length=i/\H' S=none/\s'.heap.get? S=some (bH acc c)/\aB H H'/\
  (∀ (j:Nat) t x y,ts[j]?=some t->xs[j]?=some x->ys[j]?=some y->H' t=some (.tup [x,y]))/\(∀ t∈ts,H' t≠none/\H t=none)/\(∀ b∈[z,TI,TO,i1,i2],H' b=none)/\(∃ o,s'.heap.get? TO=some o)/\IsPair s'.heap TI (.ref i1) (.ref i2)/\s'.heap.IsListIter i1 l1 i/\s'.heap.IsListIter i2 l2 i/\
  ((ts=[]/\IsZip s'.heap z TI TO .none/\∃ a b,IsPair s'.heap TO a b)\/∃ t r f,ts=t::r/\g9 s'.heap z TI TO t f)
 have alive:∀ {H':Hp} {s':Shared} {t:Addr},Inv X pins σ H' s'->H' t≠none->∃ o,s'.heap.get? t=some o:=fun {H' s' t} I' h=>by
  cases e:H' t with
  | none=>exact absurd e h
  | some o=>
   have lt:=I'.hok.lt e;have x:=I'.hok t o e;cases e2:s'.heap.get? t with
   | some ob=>exact⟨ob,rfl⟩
   | none=>
    exfalso;cases o with
    | lst _=>obtain⟨_,_,_,_,e3⟩:=x;rw[e2] at e3;cases e3
    | tup _=>obtain⟨_,_,_,p⟩:=x;obtain⟨_,e3,_⟩:=p;rw[e2] at e3;cases e3
    | dK _=>obtain⟨_,_,_,_,_,_,_,e3,_⟩:=x;rw[e2] at e3;cases e3
    | dT _=>obtain⟨_,_,_,_,_,_,_,e3,_⟩:=x;rw[e2] at e3;cases e3
    | set _ _=>obtain⟨_,_,_,_,e3,_⟩:=x;rw[e2] at e3;cases e3
    | ins _ _ _=>obtain⟨_,_,_,e3,_⟩:=x;rw[e2] at e3;cases e3
    | own _=>obtain⟨_,e3⟩:=x;rw[e2] at e3;cases e3
    | xd _=>obtain⟨_,⟨_,_,_,e3,_⟩,_⟩:=x;rw[e2] at e3;cases e3
    | rng _ _=>obtain⟨_,_,_,e3⟩:=x;rw[e2] at e3;cases e3
    | frz _ _=>obtain⟨e3,_⟩:=x;rw[e2] at e3;cases e3
    | tbl _=>obtain⟨_,_,_,_,e3,_⟩:=x;rw[e2] at e3;cases e3
    | cod _ _=>obtain⟨⟨_,e3⟩,_⟩:=x;rw[e2] at e3;cases e3
    | met _ _=>have e3:s'.heap.get? t=some _:=x;rw[e2] at e3;cases e3
    | ext _=>obtain⟨_,⟨_,e3⟩,_⟩:=x;rw[e2] at e3;cases e3
 have chOk:∀ {H':Hp},(∀ b∈[z,TI,TO,i1,i2],H' b=none)->∀ b∈[z,TO,i1,i2],e7 X pins H' b:=fun {H'} nf b hb'=>by
  have hb2:b∈[z,TI,TO,i1,i2]:=by
   simp only[List.mem_cons,List.not_mem_nil,or_false] at hb' ⊢;rcases hb' with e | e | e | e <;> simp [e]
  exact(hf b hb2).heap (nf b hb2)
 have step:∀ (i:Nat) (H':Hp) (ts:La0) (c:Nat) (s':Shared) (h':Heap) (x y:V) (u v:Value),Inv X pins σ H' s'->ts.length=i->H' S=none->s'.heap.get? S=some (bH (ts.map Value.ref) c)->aB H H'->
   (∀ (j:Nat) t x y,ts[j]?=some t->xs[j]?=some x->ys[j]?=some y->H' t=some (.tup [x,y]))->(∀ t∈ts,H' t≠none/\H t=none)->(∀ b∈[z,TI,TO,i1,i2],H' b=none)->(∀ b∈[z,TI,TO,i1,i2],∃ o,s'.heap.get? b=some o)->IsPair s'.heap TI (.ref i1) (.ref i2)->xs[i]?=some x->ys[i]?=some y->RelV x u->RelV y v->
   (∀ b o,b∉[z,TO,i1,i2]->s'.heap.get? b=some o->h'.get? b=some o)->(∃ o,h'.get? TO=some o)->IsPair h' s'.heap.objs.size u v->h'.IsListIter i1 l1 (i + 1)->h'.IsListIter i2 l2 (i + 1)->(∃ t r f,ts++[s'.heap.objs.size]=t::r/\g9 h' z TI TO t f)->
   ∃ v' c',some (Value.ref s'.heap.objs.size)=some v'/\h'.get? S=some (bH (ts.map Value.ref) c')/\∀ g,Heap.SameBut S h' g->g.get? S=some (bH (ts.map Value.ref++[v']) (c' + 1))->J (i + 1) (ts.map Value.ref++[v']) { s' with heap:=g }:=by
  intro i H' ts c s' h' x y u v I' hl hHS hS sm hts hal nf ex hTI' hx hy ru rv hk hTOx hT hi1 hi2 hzz;have Slt:S < s'.heap.objs.size:=Heap.lt_size hS;have ST:S≠s'.heap.objs.size:=Nat.ne_of_lt Slt;have fT:H' s'.heap.objs.size=none:=I'.hok.fresh (Nat.le_refl _);have hSn:S∉[z,TO,i1,i2]:=fun hm=>by
   simp only[List.mem_cons,List.not_mem_nil,or_false] at hm;rcases hm with e | e | e | e
   ·exact nS z (by simp) e.symm
   ·exact nS TO (by simp) e.symm
   ·exact nS i1 (by simp) e.symm
   ·exact nS i2 (by simp) e.symm
  refine⟨_,c,rfl,hk S _ hSn hS,fun g sb hg=>?_⟩;have I1:Inv X pins σ (upd H' s'.heap.objs.size (.tup [x,y])) { s' with heap:=h' }:=I'.so (t':=s'.toks) (chOk nf) (Nat.le_refl _) hk ⟨_,hT,rfl,_,rfl⟩ ru rv;have nT:∀ b∈[z,TI,TO,i1,i2],b≠s'.heap.objs.size:=fun b hb'=>by obtain⟨o,e⟩:=ex b hb';exact Nat.ne_of_lt (Heap.lt_size e)
  have hS2:(upd H' s'.heap.objs.size (.tup [x,y])) S=none:=by rw[ah ST];exact hHS
  have I2:Inv X pins σ (upd H' s'.heap.objs.size (.tup [x,y])) { s' with heap:=g }:=I1.moved (t':=s'.toks) (ch:=[S]) (fun b hb'=>by
   have e:b=S:=by simpa using hb'
   rw[e];exact fS.heap hS2) fun b o hb' e=>(sb.2 b fun z'=>hb' (by simp [z'])).trans e
  have nTt:∀ {t:Addr},H' t≠none->t≠s'.heap.objs.size:=fun h e=>h (by rw[e];exact fT);refine⟨upd H' s'.heap.objs.size (.tup [x,y]),ts++[s'.heap.objs.size],c + 1,I2,by rw[List.map_append];rfl,by rw[List.length_append,hl];rfl,hS2,hg,fun b o e=>?_,fun j t x' y' ht hx' hy'=>?_,fun t ht=>?_,fun b hb'=>?_,?_,?_,?_,?_,?_⟩
  ·have e':=sm b o e;rw[ah (fun z'=>by rw[z',fT] at e';cases e')];exact e'
  ·by_cases hj:j < ts.length
   ·rw[List.getElem?_append_left hj] at ht;have e':=hts j t x' y' ht hx' hy';rw[ah (nTt (by rw[e'];simp))];exact e'
   ·have hj2:j=ts.length:=by
     have:=(gS0 ht).1;rw[List.length_append,List.length_singleton] at this;omega
    subst hj2;rw[List.getElem?_append_right (Nat.le_refl _),Nat.sub_self] at ht;have et:t=s'.heap.objs.size:=(Option.some.inj ht).symm;rw[hl] at hx' hy';rw[hx] at hx';rw[hy] at hy';cases hx';cases hy';rw[et];exact ar
  ·rcases List.mem_append.mp ht with z' | z'
   ·rw[ah (nTt (hal t z').1)];exact hal t z'
   ·have e:t=s'.heap.objs.size:=by simpa using z'
    rw[e,ar];exact⟨by simp,sm.free fT⟩
  ·rw[ah (nT b hb')];exact nf b hb'
  ·obtain⟨o,e⟩:=hTOx;exact⟨o,(sb.2 TO (nS TO (by simp))).trans e⟩
  ·exact(sb.2 TI (nS TI (by simp))).trans (hk TI _ (by simp [D.TIz,D.TITO,D.TIi1,D.TIi2]) hTI')
  ·exact hi1.extBut sb.extBut (nS i1 (by simp))
  ·exact hi2.extBut sb.extBut (nS i2 (by simp))
  ·obtain⟨t,r,f,e,hzf⟩:=hzz;exact .inr ⟨t,r,f,e,(sb.2 z (nS z (by simp))).trans hzf⟩
 refine callType_codes (Q₁:=fun obj s₁=>obj=.ref S/\s₁={ s with heap:=s.heap.push { cls:=.type "list",data:=.seq #[] } }) F.called_list (F.typeCall_list_1 _) F.entry_list_init (code_list_new _ ⟨by rw[hSe],rfl⟩) fun obj s₁ e₁=>?_;obtain⟨rfl,rfl⟩:=e₁;have hS0:(s.heap.push { cls:=.type "list",data:=.seq #[] }).get? S=some { cls:=.type "list",data:=.seq #[] }:=by rw[hSe];exact Heap.get?_push_size _ rfl
 have up0:∀ b o,s.heap.get? b=some o->(s.heap.push { cls:=.type "list",data:=.seq #[] }).get? b=some o:=fun b o e=>Heap.get?_push_of_some _ e;have I0:Inv X pins σ H { s with heap:=s.heap.push { cls:=.type "list",data:=.seq #[] } }:=I.kept (t':=s.toks) up0;refine⟨⟨_,hS0,rfl⟩,F.args_list_init_2 _ _,?_⟩;show wpAny _ X.A.in1.in1 (Builtin.List.listItems (.ref S) >>= fun old=>Builtin.List.listUpdate (.ref S) (fun _=>#[]) >>= fun _=>letGo old.toList.reverse >>= fun _=>Builtin.List.listExtendWith (.ref S) (.ref z) .none) _ _ _;unfold Builtin.List.listItems;refine wpAny_bind (wpAny_bind (wpAny_seqItems hS0 rfl (wpAny_pure ?_)));show wpAny _ X.A.in1.in1 (updateSeq S (fun _=>#[]) >>= fun _=>letGo (#[]:Array Value).toList.reverse >>= fun _=>Builtin.List.listExtendWith (.ref S) (.ref z) .none) _ _ _;refine wpAny_bind (wpAny_updateSeq hS0 rfl (wpAny_bind (wpAny_letGo ?_)));have hS1:=Heap.get?_update_self (Obj.mapSeq (fun _=>(#[]:Array Value))) hS0 rfl;have up1:∀ b o,b≠S->s.heap.get? b=some o->((s.heap.push { cls:=.type "list",data:=.seq #[] }).update S (Obj.mapSeq (fun _=>(#[]:Array Value)))).get? b=some o:=fun b o nb e=>(Heap.get?_update_other _ _ (Ne.symm nb)).trans (up0 b o e);generalize hg1:(s.heap.push { cls:=.type "list",data:=.seq #[] }).update S (Obj.mapSeq (fun _=>(#[]:Array Value)))=g1 at hS1 up1;have hzT:∀ g:Heap,(∀ b o,b≠S->s.heap.get? b=some o->g.get? b=some o)->g.get? z=some _:=fun g k=>k z _ (nS z (by simp)) hz;have TyZ:∀ s':Shared,s'.heap.get? z=some { cls:=.type "zip",dict:=none,data:=.fields #[.none,.bool false,.bool false,.ref TI,.ref TO],slots:=#[] }->s'.TypeIs (.ref z) "zip":=fun s' e=>⟨_,e,rfl⟩;unfold Builtin.List.listExtendWith;refine wpAny_bind (wpAny_typeOf (TyZ _ (hzT g1 up1)) ?_);have b1:Builtin.List.listSameRef (.ref S) (.ref z)=false:=by simp [Builtin.List.listSameRef,(nS z (by simp)).symm]
 have b2:(Value.type "zip" == Value.type "list")=false:=by decide
 have b3:(Value.type "zip" == Value.type "tuple")=false:=by decide
 simp only[b1,b2,b3,Bool.or_false,Bool.false_eq_true,if_false];refine wpAny_bind (wpAny_pyIter_zip (hzT g1 up1) (wpAny_bind (wpAny_holding ?_)));unfold Builtin.List.listLengthHint;refine wpAny_bind (wpAny_specialOf (TyZ _ (hzT g1 up1)) CJ ?_);show wpAny _ X.A.in1.in1 (specialOf (Value.ref z) (Str.ofString "__length_hint__") >>= fun a=>_) _ _ _;refine wpAny_bind (wpAny_specialOf (TyZ _ (hzT g1 up1)) Ae (wpAny_pure ?_));show wpAny _ X.A.in1.in1 (rule "list.extend.makes-room" >>= fun _=>Builtin.List.listTouch (.ref S) >>= fun _=>again (.builtin "list.extend.loop" ⟨[.ref S,.ref z,.none],[]⟩)) _ _ _;refine wpAny_bind (wpAny_rule (wpAny_bind ?_));show wpAny _ X.A.in1.in1 (updateSeq S (·.push .none) >>= fun _=>updateSeq S (·.pop)) _ _ _;refine wpAny_bind (wpAny_updateSeq hS1 rfl ?_);have hS2:=Heap.get?_update_self (Obj.mapSeq (·.push Value.none)) hS1 rfl;refine wpAny_updateSeq (hz:=by seq_fits) hS2 rfl ?_;have hS3:=Heap.get?_update_self (Obj.mapSeq (·.pop)) hS2 rfl;have up3:∀ b o,b≠S->s.heap.get? b=some o->((g1.update S (Obj.mapSeq (·.push Value.none))).update S (Obj.mapSeq (·.pop))).get? b=some o:=
  fun b o nb e=>(Heap.get?_update_other _ _ (Ne.symm nb)).trans ((Heap.get?_update_other _ _ (Ne.symm nb)).trans (up1 b o nb e))
 generalize hg3:(g1.update S (Obj.mapSeq (·.push Value.none))).update S (Obj.mapSeq (·.pop))=g3 at hS3 up3;have I3:Inv X pins σ H { s with heap:=g3 }:=I.moved (t':=s.toks) (ch:=[S]) (fun b hb'=>by
  have e:b=S:=by simpa using hb'
  rw[e];exact fS) fun b o hb' e=>up3 b o (fun z'=>hb' (by simp [z'])) e
 obtain⟨c0,hc0⟩:∃ c0,g3.get? S=some (bH [] c0):=⟨_,hS3⟩;have J0:J 0 [] { s with heap:=g3 }:=⟨H,[],c0,I3,rfl,rfl,fS.1,hc0,aB.refl H,fun j t x y h=>by simp at h,fun t h=>by simp at h,fun b hb'=>(hf b hb').1,⟨_,up3 TO _ (nS TO (by simp)) hTO⟩,up3 TI _ (nS TI (by simp)) hTI,h1.at fun o e=>up3 i1 o (nS i1 (by simp)) e,h2.at fun o e=>up3 i2 o (nS i2 (by simp)) e,
  .inl ⟨rfl,up3 z _ (nS z (by simp)) hz,a0,b0,up3 TO _ (nS TO (by simp)) hTO⟩⟩
 refine wpAny_pure ⟨plainId_quiet F.plain_extend_loop _,FJ J hn (fun i acc s' h=>?_) (fun i acc s' E' hi h=>?_) (fun acc s' E' h=>?_) _ 0 [] _ rfl (Nat.zero_le _) J0⟩
 ·obtain⟨_,ts,_,_,e,l,_⟩:=h;rw[e,lM0,l]
 ·obtain⟨H',ts,c,I',rfl,hl,hHS,hS,sm,hts,hal,nf,toEx,hTI',hi1,hi2,hzz⟩:=h;have Z:=apart H' sm nf;obtain⟨ia,na,ra,ea,_⟩:=I'.lst (sm _ _ ha);obtain⟨ib,nb,rb,eb,_⟩:=I'.lst (sm _ _ hb);have hix:i < xs.length:=by omega
  have hiy:i < ys.length:=by omega
  have hx:xs[i]?=some xs[i]:=gE0 hix;have hy:ys[i]?=some ys[i]:=gE0 hiy;obtain⟨u,hu,ru⟩:=ra.get hx;obtain⟨v,hv,rv⟩:=rb.get hy;have LA:s'.heap.IsList l1 ia.toArray:=⟨_,ea,rfl,_,rfl⟩;have LB:s'.heap.IsList l2 ib.toArray:=⟨_,eb,rfl,_,rfl⟩;have exb:∀ zo:∃ o,s'.heap.get? z=some o,∀ to:∃ o,s'.heap.get? TO=some o,∀ b∈[z,TI,TO,i1,i2],∃ o,s'.heap.get? b=some o:=fun zo to b hb'=>by
   obtain⟨o1,e1,_⟩:=hi1;obtain⟨o2,e2,_⟩:=hi2;simp only[List.mem_cons,List.not_mem_nil,or_false] at hb';rcases hb' with rfl | rfl | rfl | rfl | rfl
   ·exact zo
   ·exact⟨_,hTI'⟩
   ·exact to
   ·exact⟨_,e1⟩
   ·exact⟨_,e2⟩
  rcases hzz with ⟨rfl,hz',a,b,hTO'⟩ | ⟨t,r,f,rfl,hzf⟩
  ·refine wpAny_pyNext_zip_item Z hz' hTI' hTO' hi1 hi2 LA LB (x:=u) (y:=v) (by simpa using hu) (by simpa using hv) fun h' a1 a2 a3 a4 a5 a6 hk=>?_;exact step i H' [] c s' h' _ _ u v I' hl hHS hS sm hts hal nf (exb ⟨_,hz'⟩ ⟨_,hTO'⟩) hTI' hx hy ru rv (fun b o hb' e=>by
    simp only[List.mem_cons,List.not_mem_nil,or_false,not_or] at hb';exact hk b o hb'.1 hb'.2.1 hb'.2.2.1 hb'.2.2.2 e) ⟨_,a2⟩ a5 a3 a4 ⟨_,[],false,rfl,a1⟩
  ·obtain⟨ot,et⟩:=alive I' (hal t List.mem_cons_self).1;refine De Z hzf hTI' et hi1 hi2 LA LB (x:=u) (y:=v) (by simpa using hu) (by simpa using hv) fun h' a1 a2 a3 a4 hk=>?_;exact step i H' (t::r) c s' h' _ _ u v I' hl hHS hS sm hts hal nf (exb ⟨_,hzf⟩ toEx) hTI' hx hy ru rv (fun b o hb' e=>by
    simp only[List.mem_cons,List.not_mem_nil,or_false,not_or] at hb';exact hk b o hb'.1 hb'.2.2.1 hb'.2.2.2 e) (by obtain⟨o,e⟩:=toEx;exact⟨o,hk TO o D.TOz D.TOi1 D.TOi2 e⟩) a4 a2 a3 ⟨t,r++[_],true,rfl,a1⟩
 ·obtain⟨H',ts,c,I',rfl,hl,hHS,hS,sm,hts,hal,nf,toEx,hTI',hi1,hi2,hzz⟩:=h;have Z:=apart H' sm nf;obtain⟨ia,na,ra,ea,_⟩:=I'.lst (sm _ _ ha);obtain⟨ib,nb,rb,eb,_⟩:=I'.lst (sm _ _ hb);have LA:s'.heap.IsList l1 ia.toArray:=⟨_,ea,rfl,_,rfl⟩;have LB:s'.heap.IsList l2 ib.toArray:=⟨_,eb,rfl,_,rfl⟩;have la:=ra.length;have lb:=rb.length;have hend:ia.toArray[min xs.length ys.length]?=none\/ib.toArray[min xs.length ys.length]?=none:=by
   by_cases hle:xs.length<=ys.length
   ·left;simp;omega
   ·right;simp;omega
  have fin:∀ h',(∀ b o,b∉[z,TO,i1,i2]->s'.heap.get? b=some o->h'.get? b=some o)->wants (fun r s₂=>r=.none/\EP X pins σ Q (.ref S) s₂) E (.ok (.ret .none)) { s' with heap:=h' }:=fun h' hk=>by
   have I4:Inv X pins σ H' { s' with heap:=h' }:=I'.moved (t':=s'.toks) (chOk nf) hk;have hS4:h'.get? S=some (bH (ts.map Value.ref) c):=hk S _ (fun hm=>by
    simp only[List.mem_cons,List.not_mem_nil,or_false] at hm;rcases hm with e | e | e | e
    ·exact nS z (by simp) e.symm
    ·exact nS TO (by simp) e.symm
    ·exact nS i1 (by simp) e.symm
    ·exact nS i2 (by simp) e.symm) hS
   have I5:=I4.adopt (fS.heap hHS) hS4 (vN ts) (by rw[lM0,hl];omega);have sm5:aB H (upd H' S (.lst (ts.map V.ref))):=fun b o e=>by rw[ah (aF (sm b o e) hHS)];exact sm b o e
   exact⟨rfl,.ref S,_,I5,rfl,q S ts _ fS.1 sm5 ar hl (fun j t x y ht hx hy=>by
    have e:=hts j t x y ht hx hy;rw[ah (aF e hHS)];exact e) fun t ht=>(hal t ht).2⟩
  rcases hzz with ⟨rfl,hz',a,b,hTO'⟩ | ⟨t,r,f,rfl,hzf⟩
  ·exact wpAny_pyNext_zip_end (I.ok.hd hc) Z hz' hTI' hTO' hi1 hi2 LA LB hend fun h' hk=>⟨rfl,fin h' fun b o hb' e=>by
    simp only[List.mem_cons,List.not_mem_nil,or_false,not_or] at hb';exact hk b o hb'.1 hb'.2.1 hb'.2.2.1 hb'.2.2.2 e⟩
  ·obtain⟨ot,et⟩:=alive I' (hal t List.mem_cons_self).1;exact Dd (I.ok.hd hc) Z hzf hTI' et hi1 hi2 LA LB hend fun h' hk=>⟨rfl,fin h' fun b o hb' e=>by
    simp only[List.mem_cons,List.not_mem_nil,or_false,not_or] at hb';exact hk b o hb'.1 hb'.2.2.1 hb'.2.2.2 e⟩
def yM (t:TA):TE:=fun σ H Q=>t σ H fun vs H1=>∃ (p q:Addr) (xs ys:List V),vs=[.ref p,.ref q]/\H1 p=some (.lst xs)/\H1 q=some (.lst ys)/\min xs.length ys.length < sizeLine/\Nm H1 xs ys Q
theorem AA {a b:Expr} {ta:TA} {p p2 pos pos2:Pos} (hc:X.calm=true) (hg:Gl X "list") (hm:X.mg "list"=none) (hg2:Gl X "zip") (hm2:X.mg "zip"=none) (ha:PA X [a,b] ta)
  (hs:autoParam (starEach [a,b] X.env=[(false,eval a X.env),(false,eval b X.env)]) r0) (hs2:autoParam (starEach [b] X.env=[(false,eval b X.env)]) r0) (hs3:autoParam (starEach [Expr.Call (.Name "zip" p2) [a,b] [] pos2] X.env=[(false,eval (.Call (.Name "zip" p2) [a,b] [] pos2) X.env)]) r0) :
  PE X (.Call (.Name "list" p) [.Call (.Name "zip" p2) [a,b] [] pos2] [] pos) (yM ta):=by
 intro pins s σ H Q I h;refine wpAny_Call_Name_kw (jL I hg hm (by decide +kernel:bootBuiltins "list"=some (.type "list")) ?_);refine PyProof.Rows.callWith_type1 ?_ (by rw[hs3];rfl) rfl;rw[hs3];show wpAny _ _ (spliced ((false,eval (.Call (.Name "zip" p2) [a,b] [] pos2) X.env)::backTo pos [])) _ _ s;refine Calls.spliced_cons (Call_ (jL I hg2 hm2 (by decide +kernel:bootBuiltins "zip"=some (.type "zip")) (PyProof.Rows.callWith_type1 (thn (ha pos2 pins s σ H _ I h) fun us s1 ⟨vs,H1,I1,r1,q1⟩=>?_) (by rw[hs,hs2]) (by rw[hs2];rfl))));obtain⟨l1,l2,xs,ys,e,h1,h2,hn,q⟩:=q1;subst e;obtain⟨u,w',rfl,ru,rw'⟩:=vals2 r1;cases ru;cases rw';obtain⟨ia,na,ra,ea,_⟩:=I1.lst h1;obtain⟨ib,nb,rb,eb,_⟩:=I1.lst h2;refine call_zip_2 (xs:=ia.toArray) (ys:=ib.toArray) ⟨_,ea,rfl,_,rfl⟩ ⟨_,eb,rfl,_,rfl⟩ fun h' hz hTI hTO hi1 hi2 hsz hk=>?_;have I2:Inv X pins σ H1 { s1 with heap:=h' }:=I1.kept (t':=s1.toks) hk;have lt:∀ i j:Nat,i < j->s1.heap.objs.size + i≠s1.heap.objs.size + j:=fun i j h e=>by omega
 have D:pX (s1.heap.objs.size + 4) (s1.heap.objs.size + 2) (s1.heap.objs.size + 3) s1.heap.objs.size (s1.heap.objs.size + 1):=
  ⟨lt 2 4 (by decide),lt 3 4 (by decide),lt 0 4 (by decide),lt 1 4 (by decide),lt 2 3 (by decide),(lt 0 2 (by decide)).symm,(lt 1 2 (by decide)).symm,(lt 0 3 (by decide)).symm,(lt 1 3 (by decide)).symm,lt 0 1 (by decide)⟩
 refine Calls.spliced_nil ?_;refine zm D I2 hc (fun b hb=>?_) ⟨hz,hTI,⟨_,_,hTO⟩,hi1,hi2⟩ h1 h2 hn q;have hge:s1.heap.objs.size<=b:=by
  simp only[List.mem_cons,List.not_mem_nil,or_false] at hb;rcases hb with rfl | rfl | rfl | rfl | rfl <;> omega
 exact I1.qu hge (I1.hok.fresh hge)
end
section
variable {X:Cx} {C:Addr} {x:Str} {p pos:Pos}
structure Mk0 (K:Fg0) (C:Addr):Prop where
 makes:PySem.W.makesIn K C=true
 init:PySem.W.findIn K (.ref C) "__init__"=some (some (.builtin "object.__init__"))
 kp:PySem.W.keepIn K (.ref C)=true
def BB (C:Addr):TE:=fun _ H Q=>∀ x dx,H x=none->H dx=none->dx≠x->Q (.ref x) (upd (upd H dx (.own x)) x (.ins C dx []))
theorem C6 (M:Mk0 X.K C) (hg:Gl X x) (hm:X.mg x=some (.ref C)) (hdb:autoParam ((x == ("__debug__":Str))=false) d0):PE X (.Call (.Name x p) [] [] pos) (BB C):=by
 intro pins s σ H Q I h;refine wpAny_Call_Name_kw (l_ I hg hm ?_ hdb);refine PySem.W.callWith_K0 I.kIn M.kp (wpAny_call ?_);have hq:=h (s.heap.objs.size + 1) s.heap.objs.size (I.hok.fresh (Nat.le_succ _)) (I.hok.fresh (Nat.le_refl _)) (Nat.ne_of_lt (Nat.lt_succ_self _));have I2:=Inv.made (C:=C) I;have Y:=PySem.W.makes_of (M:=model X.prog X.w) I.kIn M.makes;refine Dj I.kIn M.makes M.init (fun self=>PySem.W.Looks.of_pure (PySem.W.oi_bind self)) ?_;have e2:((s.heap.push PySem.W.emptyDict).push (PySem.W.instObj C s.heap.objs.size)).get? (s.heap.objs.size + 1)=some (PySem.W.instObj C s.heap.objs.size):=by
  have:=Heap.get?_push_size (s.heap.push PySem.W.emptyDict) (o:=PySem.W.instObj C s.heap.objs.size) rfl
  rwa [Heap.size_push] at this
 have t1:PySem.W.Looks (model X.prog X.w) ((s.heap.push PySem.W.emptyDict).push (PySem.W.instObj C s.heap.objs.size)) (typeOf (.ref (s.heap.objs.size + 1))) (.ref C):=(PySem.W.Looks.ld e2).andThen .now;have t2:PySem.W.Looks (model X.prog X.w) ((s.heap.push PySem.W.emptyDict).push (PySem.W.instObj C s.heap.objs.size)) (isInstance (.ref (s.heap.objs.size + 1)) (.type "object")) true:=t1.andThen (Y.top.keeps fun b o e=>Heap.get?_push_of_some _ (Heap.get?_push_of_some _ e));refine codeAny_call_builtin PySem.W.oi_plain PySem.W.entry_oi (@PySem.W.check_slot (model X.prog X.w) _ _ _ "object.__init__" "object" "__init__" (.ref (s.heap.objs.size + 1)) [] [] _ PySem.W.oi_kind PySem.W.oi_split t2 (PySem.W.oi_args (.ref (s.heap.objs.size + 1))) ?_);rw[PySem.W.oi_run];exact wpAny_pure (And.intro rfl ⟨V.ref (s.heap.objs.size + 1),_,I2,rfl,hq⟩)
end
theorem ya {α β:Type} {f:α->Option β} {g:α->β}:∀ {l:List α},(∀ k∈l,f k=some (g k))->l.filterMap f=l.map g
 | [],_=>rfl
 | k::l,h=>by
  rw[List.filterMap_cons,h k List.mem_cons_self,List.map_cons,ya fun j hj=>h j (List.mem_cons_of_mem _ hj)]
theorem MW (ns:Li0) {k:Nat} (h:k < ns.length):(ns.map V.int)[k]?=some (V.int (ns.getD k 0)):=by
 rw[List.getElem?_map,List.getD_eq_getElem?_getD,gE0 h]
 rfl
theorem Ma (ns:Li0):kN (ns.map V.int) (some 0) none (some 2)=(List.range ((ns.length + 1) / 2)).map fun k=>V.int (ns.getD (2 * k) 0):=by
 have e:sliceBounds (some 0) none (some 2) (ns.map V.int).length=(0,(ns.length:Int),2):=by
  simp [sliceBounds];omega
 unfold kN;rw[e];have e2:sliceRange 0 (ns.length:Int) 2=(List.range ((ns.length + 1) / 2)).map fun k=>2 * k:=by
  unfold sliceRange;have ec:(if (2:Int) > 0 then (if (0:Int) < (ns.length:Int) then ((ns.length:Int) - 0 + 2 - 1) / 2 else 0) else (if (0:Int) > (ns.length:Int) then (0 - (ns.length:Int) - 2 - 1) / (-2) else 0)).toNat=(ns.length + 1) / 2:=by
   rw[if_pos (by decide)];split <;> omega
  simp only[ec];refine List.map_congr_left fun k _=>?_;omega
 simp only[e2,List.filterMap_map];refine ya fun k hk=>?_;have:=List.mem_range.mp hk;exact MW ns (show 2 * k < ns.length by omega)
theorem L_ (ns:Li0):kN (ns.map V.int) (some 1) none (some 2)=(List.range (ns.length / 2)).map fun k=>V.int (ns.getD (2 * k + 1) 0):=by
 have e:sliceBounds (some 1) none (some 2) (ns.map V.int).length=(min 1 (ns.length:Int),(ns.length:Int),2):=by
  simp [sliceBounds];omega
 unfold kN;rw[e];have e2:sliceRange (min 1 (ns.length:Int)) (ns.length:Int) 2=(List.range (ns.length / 2)).map fun k=>2 * k + 1:=by
  unfold sliceRange;have ec:(if (2:Int) > 0 then (if min 1 (ns.length:Int) < (ns.length:Int) then ((ns.length:Int) - min 1 (ns.length:Int) + 2 - 1) / 2 else 0) else (if min 1 (ns.length:Int) > (ns.length:Int) then (min 1 (ns.length:Int) - (ns.length:Int) - 2 - 1) / (-2) else 0)).toNat=ns.length / 2:=by
   rw[if_pos (by decide)];split <;> omega
  simp only[ec];refine List.map_congr_left fun k hk=>?_;have:=List.mem_range.mp hk;omega
 simp only[e2,List.filterMap_map];refine ya fun k hk=>?_;have:=List.mem_range.mp hk;exact MW ns (show 2 * k + 1 < ns.length by omega)
section
variable {X:Cx} {tg:Expr}
end
theorem lL (ns:Li0) (k:Nat) (h:k<=ns.length):zS (ns.map V.int) (some (k:Int)) none=(ns.drop k).map V.int:=by
 have e:HT.sIx (ns.map V.int).length 0 (some (k:Int))=k:=by
  simp only[HT.sIx,lM0];split <;> omega
 unfold zS;rw[e,show HT.sIx (ns.map V.int).length (ns.map V.int).length none=ns.length by simp [HT.sIx]];rw[List.take_of_length_le (by simp),List.map_drop]
noncomputable def sgn (c:Nat):Str:=⟨#[c]⟩
noncomputable def Its (x:Str):It:=⟨fun i _=>i < x.cps.size,fun i H v H'=>H'=H/\∃ c,x.cps[i]?=some c/\v=.str (sgn c),fun i _=>x.cps.size<=i⟩
theorem DT {P:Program} {w:World} {K:Fg0} {tg:Expr} (it:Addr) (x:Str) (t:Tok):Turn P w K tg (Its x) [it] it (fun i h=>h.IsStrIter it "str_ascii_iterator" x t i) where
 mem:=by simp
 obj:=fun i h st b hb=>by
  obtain rfl:b=it:=by simpa using hb
  obtain⟨o,e,c,d⟩:=st;exact⟨o,e,fun v z=>by rw[d] at z;cases z⟩
 keep:=fun i h h' st k=>let ⟨o,e,r⟩:=st;⟨o,k it (by simp) o e,r⟩
 item:=by
  intro X hP hw hK hc i pins s σ H E I hf st hg;subst hP hw hK;obtain⟨f0,f1,f2,f3,f4,f5⟩:=hf it (by simp);have hg':i < x.cps.size:=hg;refine wpAny_pyNext_ascii_item st (c:=x.cps[i]) (by simp [hg']) fun h' st' sb=>?_;have I1:Inv X pins σ H { s with heap:=h',toks:=s.toks + 1 }:=I.turned (fun b o hb e=>(sb.2 b hb).trans e) f0 f1 f3 f4 f5;obtain⟨o,e,c,d⟩:=id st';exact⟨_,rfl,Cj (s:={ s with heap:=h',toks:=s.toks + 1 }) e c d (by decide) ⟨.str (sgn x.cps[i]),H,I1,⟨_,rfl⟩,⟨rfl,_,by simp [hg'],rfl⟩,st',fun b hb=>(hf b hb).1⟩⟩
 done:=by
  intro X hP hw hK hc i pins s σ H E I hf st hg;subst hP hw hK;obtain⟨f0,f1,f2,f3,f4,f5⟩:=hf it (by simp);have hg':x.cps.size<=i:=hg;exact wpAny_pyNext_ascii_end (I.ok.hd hc) st (by simpa using hg') fun h' eb=>⟨rfl,I.turned (t':=s.toks) (fun b o hb e=>eb b o hb e) f0 f1 f3 f4 f5⟩
 self:=fun _ _ _ _ _ st h=>wpAny_pyIter_striter_ascii st h
section
variable {X:Cx} {tg:Expr}
def MQ (tl:TE):TI:=fun σ H R=>tl σ H fun x H1=>∃ z,x=.str z/\z.cps.all (· < 128)=true/\R (Its z) H1
theorem Ku {l:Expr} {tl:TE} (hl:PE X l tl):PI X tg l (MQ tl):=by
 intro pins s σ H R I h;refine thn (hl pins s σ H _ I h) fun v s1 Z=>?_;obtain⟨x,H1,I1,r1,q1⟩:=Z;obtain⟨z,rfl,ha,q⟩:=q1;obtain⟨t,rfl⟩:=r1;refine wpAny_pyIter_ascii ha ?_;refine⟨s1.heap.objs.size,[s1.heap.objs.size],_,_,H1,rfl,I1.kept (t':=s1.toks) fun b o e=>Heap.get?_push_of_some _ e,DT _ z t,⟨_,Heap.get?_push_size _ rfl,rfl,rfl⟩,fun b hb=>?_,q⟩;obtain rfl:b=s1.heap.objs.size:=by simpa using hb
 exact I1.qu (Nat.le_refl _) (I1.hok.fresh (Nat.le_refl _))
def El:R2:=fun x y H Q=>∃ z n,x=.str z/\y=.int n/\(n=0\/n=1)/\z.length<=sizeLine/\Q (.str (if n=0 then Str.empty else z)) H
theorem HE:OpR X (binaryOp .Mult) El:=by
 intro pins s σ H x y v u Q I rx ry h;obtain⟨z,n,rfl,rfl,hn,hz,q⟩:=h;obtain⟨t,rfl⟩:=rx;obtain⟨t',rfl⟩:=ry;rcases hn with rfl | rfl
 ·refine PySem.P.mul_str_none (by decide) (by decide) ⟨.str Str.empty,H,I.tok _,⟨_,rfl⟩,by simpa using q⟩
 ·refine PySem.P.mul_str (by decide) (fun _ h=>absurd h (by simp)) (fun _ h=>absurd h (by simp)) ?_;rw[if_neg (by decide),if_pos (by simp)];exact⟨.str z,H,I,⟨_,rfl⟩,by simpa using q⟩
structure TyS (K:Fg0):Prop where
 bs:PySem.W.kitOne K (.type "bool") (.type "str")=some false
 is:PySem.W.kitOne K (.type "int") (.type "str")=some false
 ns:PySem.W.kitOne K (.type "NoneType") (.type "str")=some false
 ss:PySem.W.kitOne K (.type "str") (.type "str")=some true
 ls:PySem.W.kitOne K (.type "list") (.type "str")=some false
 ts:PySem.W.kitOne K (.type "tuple") (.type "str")=some false
 ds:PySem.W.kitOne K (.type "dict") (.type "str")=some false
noncomputable def isS:V->Bool
 | .str _=>true
 | _=>false
theorem F_ (F:TyS X.K):bV X (.builtin "isinstance") (fun xs H Q=>∃ x,xs=[x,.ty "str"]/\Kn H x/\Q (.bl (isS x)) H):=by
 intro pins s σ H xs us Q I r h;obtain⟨x,rfl,k,q⟩:=h;cases k with
 | non=>exact aA I r .non F.ns rfl q
 | bl b=>exact aA I r (.bl b) F.bs rfl q
 | int i=>exact aA I r (.int i) F.is rfl q
 | str y=>exact aA I r (.str y) F.ss rfl q
 | lst e=>exact aA I r (.lst e) F.ls rfl q
 | tup e=>exact aA I r (.tup e) F.ts rfl q
 | dK e=>exact aA I r (.dK e) F.ds rfl q
end
section
variable {prog:Program} {w:World} {A:Around} {E:VS} {s:Shared}
end
section
variable {X:Cx} {tg:Expr}
end
section
variable {prog:Program} {w:World} {A:Around} {E:VS} {s:Shared}
structure ZsD (z TI TO i1 i2 p:Addr):Prop extends pX z TI TO i1 i2 where
 pz:p≠z
 pTO:p≠TO
 pi1:p≠i1
 pi2:p≠i2
theorem JR {z TI TO i1 i2 p:Addr} {k:Nat} {xs:Str} {tk0:Tok} {a b:Value} {Q:Fin->Shared->Prop} (hh:A.handled=none) (D:ZsD z TI TO i1 i2 p) (hz:IsZip s.heap z TI TO .none) (hTI:IsPair s.heap TI (.ref i1) (.ref i2)) (hTO:IsPair s.heap TO a b)
  (h1:s.heap.IsStrIter i1 "str_ascii_iterator" xs tk0 k) (hx:xs.cps[k]?=none)
  (hE:∀ h' e,(∀ d o,d≠z->d≠TO->d≠i1->d≠i2->s.heap.get? d=some o->h'.get? d=some o)->(∃ o,h'.get? e=some o/\o.cls=.type "StopIteration")->E (.ref e) { s with heap:=h' }) :
  wpAny (model prog w) A (Builtin.«zip.__next__» ⟨[.ref z],[]⟩) Q E s:=by
 show wpAny _ _ (field (.ref z) 2 >>= fun a=>_) _ _ _;refine wpAny_bind (wpAny_field hz rfl (x:=.bool false) rfl ?_);show wpAny _ _ (field (.ref z) 3 >>= fun a=>_) _ _ _;refine wpAny_bind (wpAny_field hz rfl (x:=.ref TI) rfl (wpAny_bind (wpAny_seqItems hTI rfl ?_)));show wpAny _ _ (Builtin.SmallTypes.ownedTupleIsFree (.ref z) >>= fun a=>_) _ _ _;refine wpAny_bind ?_;unfold Builtin.SmallTypes.ownedTupleIsFree;refine wpAny_bind (wpAny_field hz rfl (x:=.none) rfl (wpAny_pure ?_));simp only[if_true];refine wpAny_bind (wpAny_rule (wpAny_bind (wpAny_field hz rfl (x:=.ref TO) rfl ?_)));refine wpAny_bind (wpAny_setField_rec hz (by simp) fun g1 hz1 sb1=>?_);replace hz1:IsZip g1 z TI TO .ellipsis:=hz1;refine wpAny_bind ?_;simp only[List.zipIdx_cons,List.zipIdx_nil,List.forIn_cons,List.forIn_nil];refine wpAny_bind (wpAny_bind (wpAny_onRaise ?_));show wpAny _ _ (Builtin.SmallTypes.nextOf (.ref i1) >>= fun a=>_) _ _ _;refine wpAny_bind (wpAny_nextOf_ascii_end hh (h1.extBut sb1.extBut D.i1z) hx fun g2 e sb2 he=>?_);obtain⟨oe,hoe,hce⟩:=he;have hz2:IsZip g2 z TI TO .ellipsis:=sb2 _ _ D.i1z.symm hz1;have hez:e≠z:=fun q=>by subst q;rw[hz2] at hoe;cases hoe;simp at hce
 exact wpAny_setField_rec hz2 (by simp) fun g3 _ sb3=>hE g3 e (fun d o c1 _ c3 _ q=>sb3.extBut _ _ c1 (sb2 _ _ c3 (sb1.extBut _ _ c1 q))) ⟨oe,sb3.extBut _ _ hez hoe,hce⟩
end
section
variable {X:Cx} {pins:Pn} {σ:St} {H:Hp} {s:Shared}
end
noncomputable abbrev zs1 (h:Heap) (x:Str) (t:Tok):Heap:=h.push { cls:=.type "str_ascii_iterator",data:=.fields #[.str x t,.int 0 0] }
section
variable {prog:Program} {w:World} {A:Around} {E:VS} {s:Shared}
end
section
variable {X:Cx}
end
structure ExcAt (n:Nat) (H:Hp) (h:Heap) (e:Addr) (cls:Value) (dx:Option Addr):Prop where
 ge:n<=e
 free:H e=none
 rcd:∃ oe vs,h.get? e=some oe/\oe.cls=cls/\oe.dict=dx/\oe.data=.fields vs/\1 < vs.size/\
  (vs[1]?=some .none\/∃ T oT ts,vs[1]?=some (.ref T)/\n<=T/\T≠e/\H T=none/\h.get? T=some oT/\oT.data=.fields ts/\ts[3]?=some .none)
section
variable {M:Model} {A:Around} {E:VS} {s:Shared} {base:Heap} {env:Env} {outer:List Env} {L e:Addr} {n:Nat} {H:Hp} {cls:Value} {dx:Option Addr}
end
section
variable {P:Program} {w:World} {K:Fg0} {mg:SV} {base:Heap} {N:Ls0} {qual:Str} {scope:Scope} {f:Addr} {cd:Value} {A:Around} {outer:List Env} {s:Shared} {H:Hp} {E:XK}
end
open PySem PySem.Spec PyProof.Rows PySem.W
section
variable {prog:Program} {w:World} {A:Around} {K:Frag} {C:Addr} {R:Result->Shared->Prop} {h:Heap} {g:Array GenState} {d:Drawn} {t:Nat} {os:OsState}
end
section
variable {P:Program} {w:World} {K:Fg0} {mg:SV} {base:Heap} {N:Ls0} {qual:Str} {scope:Scope} {f:Addr} {cd:Value} {A:Around} {outer:List Env} {s:Shared} {H:Hp} {E:XK}
end
section
variable {X:Cx} {CX:CXT} {k:Nat} {f C:Addr} {fd:FuncData} {ps:Ls0} {sp:Sp} {dvs:List V} {ds:Lv0} {E E':XK} {x m:Str} {p pos apos cpos:Pos} {e o:Expr} {es:List Expr} {ta:TE} {t:TA}
end
open Builtin Builtin.ObjectAttr
section
variable {prog:Program} {w:World} {A:Around} {E:VS} {s:Shared} {K:Fg0} {e C:Addr} {name:Str} {v:Value} {R:Result->Shared->Prop}
open PySem.W in
end
noncomputable def XdO (d:Addr) (fs:List (Str×V)):HO:=HO.ext fun h=>∃ mA,h.Ns1 d mA/\(∀ f,uY (fs.lookup f) (mA f))/\PySem.Within mA (fs.map (·.1))
section
variable {X:Cx} {pins:Pn} {σ:St} {H:Hp} {s:Shared} {A:Around} {E:VS} {e C d:Addr} {f:Str} {fs:List (Str×V)}
end
section
variable {X:Cx} {CX:CXT} {k:Nat} {g C:Addr} {fd:FuncData} {ps:Ls0} {sp:Sp} {dvs:List V} {ds:Lv0} {E:XK} {x m f:Str} {p pos pos' apos:Pos} {e o value:Expr} {es:List Expr} {ta tv:TE} {t:TA} {mc:Value}
end
namespace XI
open PySem.W
end XI
section
variable {prog:Program} {w:World} {A:Around} {E:VS} {s:Shared} {K:Fg0} {e C t:Addr} {dx:Option Addr} {u:Value}
end
section
variable {X:Cx} {p pos apos:Pos} {a:Expr} {es:List Expr} {t:TA}
end
end L2
namespace L2
open PySem PySem.Spec PyProof.Rows
structure XAt (X:Cx) (pins:Pn) (n:Nat):Prop where
 s0:X.s₀.heap.objs.size<=n
 loc:X.env.locals < n
 cel:∀ x c,X.env.cells.lookup x=some c->c < n
 pin:∀ p∈X.pn++pins,p.1 < n
section
variable {X:Cx} {pins:Pn} {σ:St} {H:Hp} {s:Shared} {n:Nat} {h':Heap} {e L:Addr} {cls:Value} {dx:Option Addr} {M:Model} {E:VS}
end
def XP (X:Cx) (W:St->XK) (ev:Value) (s':Shared):Prop:=∃ e cls dx H' σ' n,ev=.ref e/\Inv X [] σ' H' s'/\XAt X [] n/\ExcAt n H' s'.heap e cls dx/\W σ' cls dx H'
section
variable {X:Cx} {pins:Pn} {σ:St} {H:Hp} {s:Shared} {n:Nat} {e:Addr} {cls:Value} {dx:Option Addr}
noncomputable def NV (e:Addr) (cls:Value) (dx:Option Addr):HO:=HO.ext fun h=>∃ o vs,h.get? e=some o/\o.cls=cls/\o.dict=dx/\o.data=.fields vs
end
section
variable {prog:Program} {w:World} {A:Around} {E:VS} {s:Shared} {K:Fg0} {e C C₀:Addr} {oe:Obj} {b:Bool} {Q:Bool->Shared->Prop}
end
section
variable {X:Cx} {pins:Pn} {σ:St} {H:Hp} {s:Shared} {e:Addr}
end
section
variable {X:Cx} {x nm:Str} {i:Nat} {C₀ L:Addr} {body suite:List Stmt} {b₀:Stmt} {np hpos pos:Pos} {tb:(St->XK)->TS} {ts:TS}
end
section
variable {X:Cx} {CX:CXT} {k:Nat} {f C:Addr} {fd:FuncData} {ps:Ls0} {sp:Sp} {dvs:List V} {ds:Lv0} {E:St->XK} {x m:Str} {p pos apos:Pos} {e o:Expr} {es:List Expr} {ta:TE} {t:TA}
end
section
variable {prog:Program} {w:World} {A:Around} {E:VS} {s:Shared} {K:Fg0} {e C dx:Addr} {name:Str} {v:Value} {mA:SV} {oe:Obj} {vs:Array Value}
open PySem.W in
end
section
variable {X:Cx} {o:Expr} {f:Str} {pos:Pos} {ta:TE}
end
section
variable {prog:Program} {w:World} {A:Around} {E:VS} {s:Shared} {K:Fg0} {e C:Addr} {oe:Obj} {od:Option Obj}
end
def XDk (H:Hp):Option Addr->List (Str×V)->Prop
 | some d,gs=>H d=some (XdO d gs)
 | none,gs=>gs=[]
theorem XDk.mono {H H':Hp} (e:∀ b o,H b=some o->H' b=some o):∀ {dx:Option Addr} {gs:List (Str×V)},XDk H dx gs->XDk H' dx gs
 | some _,_,h=>e _ _ h
 | none,_,h=>h
noncomputable def vv:V->Value
 | .ref a=>.ref a
 | .ty n=>.type n
 | _=>.none
noncomputable def isC:V->Bool
 | .ref _=>true
 | .ty _=>true
 | _=>false
theorem LC {x:V} {u:Value} (h:isC x=true) (r:RelV x u):u=vv x:=by
 cases x with
 | ref a=>exact r
 | ty n=>exact r
 | _=>cases h
section
variable {X:Cx}
end
end L2
namespace L3
open PySem L2
def Nv (o:Obj) (c:Addr) (q:Str):Prop:=∃ fd,o.data=.func fd/\fd.code=.ref c/\fd.qualname=q
inductive D where
 | non | bl (b:Bool) | int (i:Int) | str (x:Str) | lst (xs:List D) | tup (xs:List D) | ktup (xs:List D) | ins (C:Addr) (ns:Ls0) (xs:List D) | scr (ns:Li0) | ty (n:String) | adr (a:Addr) | cel (p:Addr) (xs:List D) | exc (C:Addr) (ns:Ls0) (xs:List D) | dct | dcs (k:Str) (i:Int) | fn (o:Unit->Obj) (f:Addr) (v:V) (r:D)
mutual
def Rep (K:Fg0) (F:Hp):D->V->Prop
 | .non,v=>v=.non
 | .bl b,v=>v=.bl b
 | .int i,v=>v=.int i
 | .str x,v=>v=.str x
 | .ty n,v=>v=.ty n
 | .adr a,v=>v=.ref a
 | .cel p xs,v=>v=.ref p/\∃ vs,F p=some (.lst vs)/\aD K F xs vs
 | .scr ns,v=>∃ p,v=.ref p/\SqL K F p (ns.map V.int)
 | .lst xs,v=>∃ p vs,v=.ref p/\F p=some (.lst vs)/\aD K F xs vs
 | .tup xs,v=>∃ p vs,v=.ref p/\F p=some (.tup vs)/\aD K F xs vs
 | .ktup xs,v=>∃ p vs,v=.ref p/\SqT K F p vs/\aD K F xs vs
 | .ins C ns xs,v=>∃ p dx gs,v=.ref p/\F p=some (.ins C dx gs)/\gs.map (·.1)=ns/\aD K F xs (gs.map (·.2))
 | .dct,v=>∃ p,v=.ref p/\F p=some (.dK [])
 | .dcs k i,v=>∃ p,v=.ref p/\F p=some (.dK [(.inr k,.int i)])
 | .exc C ns xs,v=>∃ p d gs,v=.ref p/\F p=some (NV p (.ref C) d)/\XDk F d gs/\gs.map (·.1)=ns/\aD K F xs (gs.map (·.2))
 | .fn o f v r,x=>x=.ref f/\(∃ c q,F f=some (.frz (o ()) (.cod c q))/\Nv (o ()) c q)/\Rep K F r v
def aD (K:Fg0) (F:Hp):List D->List V->Prop
 | [],vs=>vs=[]
 | x::xs,vs=>∃ v ws,vs=v::ws/\Rep K F x v/\aD K F xs ws
end
theorem SqT.same {K:Fg0} {H H':Hp} {a:Addr} {xs:List V} (e:aB H H') (h:SqT K H a xs):SqT K H' a xs:=by
 rcases h with (h | ⟨o,h⟩) | h
 ·exact .inl (.inl (e _ _ h))
 ·exact .inl (.inr ⟨o,e _ _ h⟩)
 ·exact .inr h
mutual
theorem Rep.mono {K:Fg0} {F F':Hp} (e:aB F F'):∀ {d:D} {v:V},Rep K F d v->Rep K F' d v
 | .non,_,h=>h
 | .bl _,_,h=>h
 | .int _,_,h=>h
 | .str _,_,h=>h
 | .ty _,_,h=>h
 | .adr _,_,h=>h
 | .cel _ _,_,⟨h1,vs,h2,h3⟩=>⟨h1,vs,e _ _ h2,aD.mono e h3⟩
 | .scr _,_,⟨p,h1,h2⟩=>⟨p,h1,e.seq h2⟩
 | .lst _,_,⟨p,vs,h1,h2,h3⟩=>⟨p,vs,h1,e _ _ h2,aD.mono e h3⟩
 | .tup _,_,⟨p,vs,h1,h2,h3⟩=>⟨p,vs,h1,e _ _ h2,aD.mono e h3⟩
 | .ktup _,_,⟨p,vs,h1,h2,h3⟩=>⟨p,vs,h1,SqT.same e h2,aD.mono e h3⟩
 | .ins _ _ _,_,⟨p,dx,gs,h1,h2,h3,h4⟩=>⟨p,dx,gs,h1,e _ _ h2,h3,aD.mono e h4⟩
 | .dct,_,⟨p,h1,h2⟩=>⟨p,h1,e _ _ h2⟩
 | .dcs _ _,_,⟨p,h1,h2⟩=>⟨p,h1,e _ _ h2⟩
 | .exc _ _ _,_,⟨p,dx,gs,h1,h2,h5,h3,h4⟩=>⟨p,dx,gs,h1,e _ _ h2,h5.mono e,h3,aD.mono e h4⟩
 | .fn _ _ _ _,_,⟨h1,⟨c,q,h2,h4⟩,h3⟩=>⟨h1,⟨c,q,e _ _ h2,h4⟩,Rep.mono e h3⟩
theorem aD.mono {K:Fg0} {F F':Hp} (e:aB F F'):∀ {xs:List D} {vs:List V},aD K F xs vs->aD K F' xs vs
 | [],_,h=>h
 | _::_,_,⟨v,ws,h1,h2,h3⟩=>⟨v,ws,h1,Rep.mono e h2,aD.mono e h3⟩
end
inductive Sl where
 | fz (d:D) | ow (d:D) | ln (d:D)
abbrev G:=List (Option Sl)
inductive RV where
 | fz (d:D) | fr (d:D) | two (xs ys:List D) | rws (xss:List (List D))
noncomputable def RV.pl:RV->Bool
 | .fz _=>true
 | .fr _=>true
 | _=>false
noncomputable def RV.d:RV->D
 | .fz d=>d
 | .fr d=>d
 | .two xs ys=>.tup [.lst xs,.lst ys]
 | .rws xss=>.lst (xss.map .lst)
noncomputable def RV.sl:RV->Sl
 | .fz d=>.fz d
 | .fr d=>.ow d
 | .two xs ys=>.fz (.tup [.lst xs,.lst ys])
 | .rws xss=>.ow (.lst (xss.map .lst))
structure Bs where
 F:Hp
 H:Hp
 own:List (Nat×Addr)
def Own (K:Fg0) (F H:Hp) (p:Addr):D->Prop
 | .lst xs=>∃ vs,H p=some (.lst vs)/\aD K F xs vs
 | .cel q xs=>p=q/\∃ vs,H p=some (.lst vs)/\aD K F xs vs
 | .ins C ns xs=>∃ dx gs,H p=some (.ins C dx gs)/\gs.map (·.1)=ns/\aD K F xs (gs.map (·.2))
 | _=>False
theorem Own.mono {K:Fg0} {F F' H H':Hp} {p:Addr} (e:aB F F') (h:H' p=H p):∀ {d:D},Own K F H p d->Own K F' H' p d
 | .lst _,⟨vs,a,b⟩=>⟨vs,h.trans a,b.mono e⟩
 | .cel _ _,⟨z,vs,a,b⟩=>⟨z,vs,h.trans a,b.mono e⟩
 | .ins _ _ _,⟨dx,gs,a,b,c⟩=>⟨dx,gs,h.trans a,b,c.mono e⟩
theorem Own.some {K:Fg0} {F H:Hp} {p:Addr}:∀ {d:D},Own K F H p d->∃ o,H p=some o
 | .lst _,⟨_,a,_⟩=>⟨_,a⟩
 | .cel _ _,⟨_,_,a,_⟩=>⟨_,a⟩
 | .ins _ _ _,⟨_,_,a,_⟩=>⟨_,a⟩
theorem Own.rep {K:Fg0} {F H:Hp} {p:Addr} {o:HO} (hF:F p=none) (ho:H p=Option.some o):∀ {d:D},Own K F H p d->Rep K (upd F p o) d (.ref p)
 | .lst _,Z=>by
  obtain⟨vs,a,b⟩:=Z;rw[ho] at a;cases a;exact⟨p,vs,rfl,ar,b.mono fun x u e=>by rw[ah (aF e hF)];exact e⟩
 | .cel _ _,Z=>by
  obtain⟨z,vs,a,b⟩:=Z;rw[ho] at a;cases a;subst z;exact⟨rfl,vs,ar,b.mono fun x u e=>by rw[ah (aF e hF)];exact e⟩
 | .ins _ _ _,Z=>by
  obtain⟨dx,gs,a,b,c⟩:=Z;rw[ho] at a;cases a;exact⟨p,dx,gs,rfl,ar,b,c.mono fun x u e=>by rw[ah (aF e hF)];exact e⟩
def Hld (Γ:G) (i:Nat) (d:D):Prop:=Γ[i]?=some (some (Sl.ow d))\/Γ[i]?=some (some (Sl.ln d))
structure En (K:Fg0) (B:Bs) (F:Hp) (σ:St) (H:Hp) (Γ:G):Prop where
 sub:aB F H
 len:σ.length=Γ.length
 fz:∀ (i:Nat) (d:D),Γ[i]?=some (some (Sl.fz d))->∃ v,σ[i]?=some (some v)/\Rep K F d v
 hl:∀ (i:Nat) (d:D),Hld Γ i d->∃ p,σ[i]?=some (some (V.ref p))/\F p=none/\Own K F H p d
 ow:∀ (i:Nat) (d:D) (p:Addr),Γ[i]?=some (some (Sl.ow d))->σ[i]?=some (some (V.ref p))->B.H p=none
 ln:∀ (i:Nat) (d:D) (p:Addr),Γ[i]?=some (some (Sl.ln d))->σ[i]?=some (some (V.ref p))->(i,p)∈B.own
 dis:∀ (i j:Nat) (d e:D) (p:Addr),Hld Γ i d->Hld Γ j e->σ[i]?=some (some (V.ref p))->σ[j]?=some (some (V.ref p))->i=j
 par:∀ (i:Nat) (p:Addr),(i,p)∈B.own->σ[i]?=some (some (V.ref p))/\∃ d,Γ[i]?=some (some (Sl.ln d))
 keep:aB B.F F
 new:∀ (b:Addr) (o:HO),F b=some o->B.F b=some o\/B.H b=none
 rest:∀ (b:Addr) (o:HO),B.H b=some o->(∀ i,(i,b)∉B.own)->H b=some o
 dom:∀ b,H b=none->B.H b=none
section
variable {K:Fg0} {B:Bs} {F:Hp} {σ:St} {H:Hp} {Γ:G}
theorem En.alloc (e:En K B F σ H Γ) {l:Addr} (hl:H l=none) (o:HO):En K B F σ (upd H l o) Γ where
 sub:=fun b u h=>by rw[ah (aF (e.sub b u h) hl)];exact e.sub b u h
 len:=e.len
 fz:=e.fz
 hl:=fun i d h=>by
  obtain⟨p,h1,h2,h3⟩:=e.hl i d h;obtain⟨u,hu⟩:=h3.some;exact⟨p,h1,h2,h3.mono (aB.refl F) (ah (aF hu hl))⟩
 ow:=e.ow
 ln:=e.ln
 dis:=e.dis
 par:=e.par
 keep:=e.keep
 new:=e.new
 rest:=fun b u h n=>by rw[ah (aF (e.rest b u h n) hl)];exact e.rest b u h n
 dom:=fun b h=>by
  by_cases q:b=l
  ·subst q;exact e.dom _ hl
  ·rw[ah q] at h;exact e.dom b h
theorem aY {F:Hp} {l:Addr} {o:HO} (h:F l=none):aB F (upd F l o):=fun b u e=>by rw[ah (aF e h)];exact e
theorem En.freeze (e:En K B F σ H Γ) {l:Addr} {o:HO} (hF:F l=none) (hH:H l=some o) (hB:B.H l=none) (hn:∀ (i:Nat) (d:D),Hld Γ i d->σ[i]?≠some (some (V.ref l))):En K B (upd F l o) σ H Γ where
 sub:=fun b u h=>by
  by_cases q:b=l
  ·subst q;rw[ar] at h;cases h;exact hH
  ·rw[ah q] at h;exact e.sub b u h
 len:=e.len
 fz:=fun i d h=>by
  obtain⟨v,h1,h2⟩:=e.fz i d h;exact⟨v,h1,h2.mono (aY hF)⟩
 hl:=fun i d h=>by
  obtain⟨p,h1,h2,h3⟩:=e.hl i d h;have q:p≠l:=fun z=>hn i d h (z ▸ h1);exact⟨p,h1,by rw[ah q];exact h2,h3.mono (aY hF) rfl⟩
 ow:=e.ow
 ln:=e.ln
 dis:=e.dis
 par:=e.par
 keep:=e.keep.trans (aY hF)
 new:=fun b u h=>by
  by_cases q:b=l
  ·subst q;exact .inr hB
  ·rw[ah q] at h;exact e.new b u h
 rest:=e.rest
 dom:=e.dom
def cU (K:Fg0) (F H:Hp):La0->List (List D)->Prop
 | [],xss=>xss=[]
 | q::qs,xss=>∃ xs xt vs,xss=xs::xt/\H q=some (.lst vs)/\aD K F xs vs/\cU K F H qs xt
theorem cU.mono {F F' H H':Hp} (s:aB F F'):∀ {qs:La0} {xss:List (List D)},(∀ q∈qs,H' q=H q)->cU K F H qs xss->cU K F' H' qs xss
 | [],_,_,h=>h
 | q::qs,_,e,⟨xs,xt,vs,h1,h2,h3,h4⟩=>⟨xs,xt,vs,h1,(e q (.head _)).trans h2,h3.mono s,cU.mono s (fun z hz=>e z (.tail _ hz)) h4⟩
def mE (K:Fg0) (B:Bs) (F:Hp) (σ:St) (H:Hp) (Γ:G) (v:V):RV->Prop
 | .fz d=>Rep K F d v
 | .fr d=>∃ p,v=.ref p/\F p=none/\Own K F H p d/\B.H p=none/\∀ (i:Nat) (e:D),Hld Γ i e->σ[i]?≠some (some (V.ref p))
 | .rws xss=>∃ p qs,v=.ref p/\H p=some (.lst (qs.map V.ref))/\(p::qs).Nodup/\cU K F H qs xss/\∀ z,z∈p::qs->F z=none/\B.H z=none/\∀ (i:Nat) (e:D),Hld Γ i e->σ[i]?≠some (some (V.ref z))
 | .two xs ys=>∃ t p q vs ws,v=.ref t/\H t=some (.tup [.ref p,.ref q])/\H p=some (.lst vs)/\H q=some (.lst ws)/\aD K F xs vs/\aD K F ys ws/\p≠q/\∀ z,z=t\/z=p\/z=q->F z=none/\B.H z=none/\∀ (i:Nat) (e:D),Hld Γ i e->σ[i]?≠some (some (V.ref z))
theorem En.Ck:∀ {qs:La0} {xss:List (List D)} {F:Hp},En K B F σ H Γ->cU K F H qs xss->qs.Nodup->(∀ z∈qs,F z=none/\B.H z=none/\∀ (i:Nat) (e:D),Hld Γ i e->σ[i]?≠some (some (V.ref z)))->
  ∃ F',aB F F'/\En K B F' σ H Γ/\aD K F' (xss.map .lst) (qs.map V.ref)/\∀ z,z∉qs->F' z=F z
 | [],_,F,e,h,_,_=>by cases h;exact⟨F,aB.refl F,e,rfl,fun _ _=>rfl⟩
 | q::qs,_,F,e,⟨xs,xt,vs,h1,h2,h3,h4⟩,nd,hn=>by
  subst h1;obtain⟨n1,n2⟩:=List.nodup_cons.mp nd;obtain⟨a1,a2,a3⟩:=hn q (.head _);have e1:=e.freeze a1 h2 a2 a3;have s1:=aY (o:=.lst vs) a1;obtain⟨F',s',e',r',k'⟩:=En.Ck (qs:=qs) e1 (h4.mono s1 fun _ _=>rfl) n2 fun z hz=>by
   obtain⟨b1,b2,b3⟩:=hn z (.tail _ hz);exact⟨by rw[ah (a:=q) (b:=z) (fun w=>n1 (by rw[<- w];exact hz))];exact b1,b2,b3⟩
  refine⟨F',s1.trans s',e',⟨_,_,rfl,⟨q,vs,rfl,s' _ _ ar,h3.mono (s1.trans s')⟩,r'⟩,fun z hz=>?_⟩;rw[List.mem_cons,not_or] at hz;rw[k' z hz.2,ah hz.1]
theorem En.BG (e:En K B F σ H Γ) {p:Addr} {qs:La0} {xss:List (List D)} (hp:H p=some (.lst (qs.map V.ref))) (nd:(p::qs).Nodup) (r:cU K F H qs xss) (hn:∀ z,z∈p::qs->F z=none/\B.H z=none/\∀ (i:Nat) (e:D),Hld Γ i e->σ[i]?≠some (some (V.ref z))) :
  ∃ F',aB F F'/\En K B F' σ H Γ/\F' p=none/\Own K F' H p (.lst (xss.map .lst)):=by
 obtain⟨n1,n2⟩:=List.nodup_cons.mp nd;obtain⟨F',s',e',r',k'⟩:=e.Ck r n2 fun z hz=>hn z (.tail _ hz);exact⟨F',s',e',(k' p n1).trans (hn p (.head _)).1,_,hp,r'⟩
theorem En.frozen (e:En K B F σ H Γ) {v:V}:∀ {r:RV},mE K B F σ H Γ v r->∃ F',aB F F'/\En K B F' σ H Γ/\Rep K F' r.d v
 | .fz d,h=>⟨F,aB.refl F,e,h⟩
 | .fr d,Z=>by
  obtain⟨p,hv,h1,h2,h3,h4⟩:=Z;subst hv;obtain⟨o,ho⟩:=h2.some;exact⟨upd F p o,aY h1,e.freeze h1 ho h3 h4,h2.rep h1 ho⟩
 | .rws xss,Z=>by
  obtain⟨p,qs,hv,h1,h2,h3,h4⟩:=Z;subst hv;obtain⟨F',s',e',f',o'⟩:=e.BG h1 h2 h3 h4;obtain⟨_,b2,b3⟩:=h4 p (.head _);exact⟨_,s'.trans (aY f'),e'.freeze f' h1 b2 b3,o'.rep f' h1⟩
 | .two xs ys,Z=>by
  obtain⟨t,p,q,vs,ws,hv,h1,h2,h3,h4,h5,h6,h7⟩:=Z;subst hv;obtain⟨a1,a2,a3⟩:=h7 t (.inl rfl);obtain⟨b1,b2,b3⟩:=h7 p (.inr (.inl rfl));obtain⟨c1,c2,c3⟩:=h7 q (.inr (.inr rfl));have tp:t≠p:=fun z=>by rw[z,h2] at h1;cases h1
  have tq:t≠q:=fun z=>by rw[z,h3] at h1;cases h1
  have e1:=e.freeze b1 h2 b2 b3;have f2:upd F p (.lst vs) q=none:=by rw[ah (Ne.symm h6)];exact c1
  have e2:=e1.freeze f2 h3 c2 c3;have f3:upd (upd F p (.lst vs)) q (.lst ws) t=none:=by rw[ah tq,ah tp];exact a1
  have e3:=e2.freeze f3 h1 a2 a3;have s1:=aY (o:=.lst vs) b1;have s2:=aY (o:=.lst ws) f2;have s3:=aY (o:=.tup [.ref p,.ref q]) f3;exact⟨_,(s1.trans s2).trans s3,e3,t,_,rfl,ar,⟨_,_,rfl,⟨p,vs,rfl,by rw[ah (Ne.symm tp),ah h6];exact ar,(h4.mono ((s1.trans s2).trans s3))⟩,_,_,rfl,⟨q,ws,rfl,by rw[ah (Ne.symm tq)];exact ar,h5.mono ((s1.trans s2).trans s3)⟩,rfl⟩⟩
theorem En.norm (e:En K B F σ H Γ) {v:V}:∀ {r:RV},mE K B F σ H Γ v r->∃ F' r',aB F F'/\En K B F' σ H Γ/\mE K B F' σ H Γ v r'/\r'.sl=r.sl/\r'.pl=true
 | .fz d,h=>⟨F,.fz d,aB.refl F,e,h,rfl,rfl⟩
 | .fr d,h=>⟨F,.fr d,aB.refl F,e,h,rfl,rfl⟩
 | .rws xss,Z=>by
  obtain⟨p,qs,hv,h1,h2,h3,h4⟩:=Z;subst hv;obtain⟨F',s',e',f',o'⟩:=e.BG h1 h2 h3 h4;obtain⟨_,b2,b3⟩:=h4 p (.head _);exact⟨F',.fr (.lst (xss.map .lst)),s',e',⟨p,rfl,f',o',b2,b3⟩,rfl,rfl⟩
 | .two xs ys,h=>by
  obtain⟨F',s,e',r⟩:=e.frozen h;exact⟨F',.fz (.tup [.lst xs,.lst ys]),s,e',r,rfl,rfl⟩
def Po (K:Fg0) (B:Bs) (F:Hp) (σ:St) (Q:RV->G->Prop):VK:=fun v H'=>∃ F' Γ' r,aB F F'/\En K B F' σ H' Γ'/\mE K B F' σ H' Γ' v r/\Q r Γ'
abbrev TE3:=G->(RV->G->Prop)->Prop
def Ref (K:Fg0) (t:TE) (t3:TE3):Prop:=∀ (B:Bs) (F:Hp) (σ:St) (H:Hp) (Γ:G) (Q:RV->G->Prop) (QQ:VK),En K B F σ H Γ->t3 Γ Q->(∀ v H',Po K B F σ Q v H'->QQ v H')->t σ H QQ
theorem Po.mono {F F':Hp} {Q:RV->G->Prop} {v:V} {H:Hp} (s:aB F F') (h:Po K B F' σ Q v H):Po K B F σ Q v H:=by
 obtain⟨F2,Γ',r,a,b⟩:=h;exact⟨F2,Γ',r,s.trans a,b⟩
theorem i6 (e:En K B F σ H Γ) {Q:RV->G->Prop} {v:V} {d:D} (r:Rep K F d v) (q:Q (.fz d) Γ):Po K B F σ Q v H:=⟨F,Γ,.fz d,aB.refl F,e,r,q⟩
theorem En.uc (e:En K B F σ H Γ) {l:Addr} (hl:H l=none):∀ (i:Nat) (d:D),Hld Γ i d->σ[i]?≠some (some (V.ref l)):=fun i d h z=>by
 obtain⟨p,h1,h2,h3⟩:=e.hl i d h;rw[h1] at z;cases z;obtain⟨o,ho⟩:=h3.some;rw[hl] at ho;cases ho
theorem En.nof (e:En K B F σ H Γ) {l:Addr} (hl:H l=none):F l=none:=by
 cases q:F l with
 | none=>rfl
 | some o=>have:=e.sub _ _ q;rw[hl] at this;cases this
theorem jH (e:En K B F σ H Γ) {Q:RV->G->Prop} {l:Addr} {vs:List V} {xs:List D} (hl:H l=none) (r:aD K F xs vs) (q:Q (.fr (.lst xs)) Γ):Po K B F σ Q (.ref l) (upd H l (.lst vs)):=
 ⟨F,Γ,.fr (.lst xs),aB.refl F,e.alloc hl _,⟨l,rfl,e.nof hl,⟨vs,ar,r⟩,e.dom _ hl,e.uc hl⟩,q⟩
theorem BN (e:En K B F σ H Γ) {Q:RV->G->Prop} {l:Addr} {vs:List V} {xs:List D} (hl:H l=none) (r:aD K F xs vs) (q:Q (.fz (.tup xs)) Γ):Po K B F σ Q (.ref l) (upd H l (.tup vs)):=
 ⟨upd F l (.tup vs),Γ,.fz (.tup xs),aY (e.nof hl),(e.alloc hl _).freeze (e.nof hl) ar (e.dom _ hl) (e.uc hl),⟨l,vs,rfl,ar,r.mono (aY (e.nof hl))⟩,q⟩
def s_ (i:Nat) (Γ:G) (Q:RV->G->Prop):Prop:=match Γ[i]? with
 | some (some (.fz d))=>Q (.fz d) Γ
 | some (some (.ow d))=>Q (.fz d) (Γ.set i (some (Sl.fz d)))
 | _=>False
theorem aC {α:Type} {l:List α} {i j:Nat} {a:α} (h:i≠j):(l.set i a)[j]?=l[j]?:=by rw[List.getElem?_set,if_neg h]
theorem uu {α:Type} {l:List α} {i:Nat} {a b:α} (h:l[i]?=some b):(l.set i a)[i]?=some a:=by
 rw[List.getElem?_set,if_pos rfl,if_pos (gS0 h).1]
theorem En.give (e:En K B F σ H Γ) {i:Nat} {d:D} (h:Γ[i]?=some (some (Sl.ow d))):∃ F' p,aB F F'/\σ[i]?=some (some (V.ref p))/\Rep K F' d (.ref p)/\En K B F' σ H (Γ.set i (some (Sl.fz d))):=by
 obtain⟨p,h1,h2,h3⟩:=e.hl i d (.inl h);obtain⟨o,ho⟩:=h3.some;have hr:=h3.rep h2 ho;have back:∀ {j u},j≠i->(Γ.set i (some (Sl.fz d)))[j]?=u->Γ[j]?=u:=fun hj q=>by rw[aC (Ne.symm hj)] at q;exact q
 have hld:∀ {j x},Hld (Γ.set i (some (Sl.fz d))) j x->j≠i/\Hld Γ j x:=fun {j x} q=>by
  by_cases z:j=i
  ·subst z;rcases q with q | q <;> rw[uu h] at q <;> cases q
  ·exact⟨z,q.imp (back z) (back z)⟩
 refine⟨upd F p o,p,aY h2,h1,hr,?_,?_,?_,?_,?_,?_,?_,?_,?_,?_,e.rest,e.dom⟩
 ·intro b u q;by_cases z:b=p
  ·subst z;rw[ar] at q;cases q;exact ho
  ·rw[ah z] at q;exact e.sub b u q
 ·rw[List.length_set];exact e.len
 ·intro j x q;by_cases z:j=i
  ·subst z;rw[uu h] at q;cases q;exact⟨_,h1,hr⟩
  ·obtain⟨v,a,b⟩:=e.fz j x (back z q);exact⟨v,a,b.mono (aY h2)⟩
 ·intro j x q;obtain⟨z,q⟩:=hld q;obtain⟨p',a,b,c⟩:=e.hl j x q;have ne:p'≠p:=fun y=>z (e.dis j i x d p q (.inl h) (y ▸ a) h1);exact⟨p',a,by rw[ah ne];exact b,c.mono (aY h2) rfl⟩
 ·intro j x p' q a;obtain⟨z,_⟩:=hld (.inl q);exact e.ow j x p' (back z q) a
 ·intro j x p' q a;obtain⟨z,_⟩:=hld (.inr q);exact e.ln j x p' (back z q) a
 ·intro j k x y p' q1 q2;exact e.dis j k x y p' (hld q1).2 (hld q2).2
 ·intro j p' q;obtain⟨a,y,b⟩:=e.par j p' q;have z:j≠i:=fun z=>by subst z;rw[h] at b;cases b
  exact⟨a,y,by rw[aC (Ne.symm z)];exact b⟩
 ·exact e.keep.trans (aY h2)
 ·intro b u q;by_cases z:b=p
  ·subst z;exact .inr (e.ow i d _ h h1)
  ·rw[ah z] at q;exact e.new b u q
theorem G9 (i:Nat):Ref K (cH i) (s_ i):=by
 intro B F σ H Γ Q QQ e h k;unfold s_ at h;split at h
 ·rename_i d q;obtain⟨v,h1,h2⟩:=e.fz i d q;exact⟨v,h1,k _ _ (i6 e h2 h)⟩
 ·rename_i d q;obtain⟨F',p,s,h1,h2,e'⟩:=e.give q;exact⟨_,h1,k _ _ ⟨F',_,.fz d,s,e',h2,h⟩⟩
 ·exact h.elim
def t3C (d:D) (Γ:G) (Q:RV->G->Prop):Prop:=Q (.fz d) Γ
theorem vP {v:V} {d:D} (h:∀ F,Rep K F d v):Ref K (tC v) (t3C d):=fun B F σ H Γ Q QQ e q k=>k _ _ (i6 e (h F) q)
inductive Bo where
 | d (x:D) | v (i:Nat)
noncomputable def bare:D->D
 | .cel _ xs=>.lst xs
 | .non=>.non
 | .bl b=>.bl b
 | .int i=>.int i
 | .str x=>.str x
 | .lst xs=>.lst xs
 | .tup xs=>.tup xs
 | .ktup xs=>.ktup xs
 | .ins C ns xs=>.ins C ns xs
 | .scr ns=>.scr ns
 | .ty n=>.ty n
 | .adr a=>.adr a
 | .exc C ns xs=>.exc C ns xs
 | .dct=>.dct
 | .dcs k i=>.dcs k i
 | .fn o f v r=>.fn o f v r
noncomputable def Gat (Γ:G) (i:Nat):Option D:=match Γ[i]? with
 | some (some (.fz d))=>some d
 | some (some (.ow d))=>some (bare d)
 | some (some (.ln d))=>some (bare d)
 | _=>none
noncomputable def Bo.at (Γ:G):Bo->Option D
 | .d x=>some x
 | .v i=>Gat Γ i
def rj (K:Fg0) (F:Hp) (σ:St):Bo->V->Prop
 | .d x,v=>Rep K F x v
 | .v i,v=>σ[i]?=some (some v)
def g6 (K:Fg0) (F H:Hp):D->V->Prop
 | .lst xs,v=>∃ p vs,v=.ref p/\H p=some (.lst vs)/\aD K F xs vs
 | .cel q xs,v=>v=.ref q/\∃ vs,H q=some (.lst vs)/\aD K F xs vs
 | .ins C ns xs,v=>∃ p dx gs,v=.ref p/\H p=some (.ins C dx gs)/\gs.map (·.1)=ns/\aD K F xs (gs.map (·.2))
 | d,v=>Rep K F d v
theorem Rep.b {K:Fg0} {F H:Hp} (s:aB F H):∀ {d:D} {v:V},Rep K F d v->g6 K F H d v
 | .non,_,h=>h
 | .bl _,_,h=>h
 | .int _,_,h=>h
 | .str _,_,h=>h
 | .ty _,_,h=>h
 | .adr _,_,h=>h
 | .exc _ _ _,_,h=>h
 | .dct,_,h=>h
 | .dcs _ _,_,h=>h
 | .fn _ _ _ _,_,h=>h
 | .cel _ _,_,⟨h1,vs,h2,h3⟩=>⟨h1,vs,s _ _ h2,h3⟩
 | .scr _,_,h=>h
 | .tup _,_,h=>h
 | .ktup _,_,h=>h
 | .lst _,_,⟨p,vs,h1,h2,h3⟩=>⟨p,vs,h1,s _ _ h2,h3⟩
 | .ins _ _ _,_,⟨p,dx,gs,h1,h2,h3,h4⟩=>⟨p,dx,gs,h1,s _ _ h2,h3,h4⟩
theorem Own.b {K:Fg0} {F H:Hp} {p:Addr}:∀ {d:D},Own K F H p d->g6 K F H (bare d) (.ref p)
 | .lst _,⟨vs,h1,h2⟩=>⟨p,vs,rfl,h1,h2⟩
 | .cel _ _,Z=>by obtain⟨z,vs,h1,h2⟩:=Z;subst z;exact⟨_,vs,rfl,h1,h2⟩
 | .ins _ _ _,⟨dx,gs,h1,h2,h3⟩=>⟨p,dx,gs,rfl,h1,h2,h3⟩
theorem rj.mono {F F':Hp} (s:aB F F'):∀ {bo:Bo} {v:V},rj K F σ bo v->rj K F' σ bo v
 | .d _,_,h=>Rep.mono s h
 | .v _,_,h=>h
theorem En.get (e:En K B F σ H Γ) {i:Nat} {d:D} (h:Gat Γ i=some d):∃ v,σ[i]?=some (some v)/\g6 K F H d v:=by
 unfold Gat at h;split at h
 ·cases h;rename_i q;obtain⟨v,h1,h2⟩:=e.fz i _ q;exact⟨v,h1,h2.b e.sub⟩
 ·cases h;rename_i q;obtain⟨p,h1,h2,h3⟩:=e.hl i _ (.inl q);exact⟨_,h1,h3.b⟩
 ·cases h;rename_i q;obtain⟨p,h1,h2,h3⟩:=e.hl i _ (.inr q);exact⟨_,h1,h3.b⟩
 ·cases h
theorem En.bo (e:En K B F σ H Γ):∀ {bo:Bo} {v:V} {d:D},rj K F σ bo v->bo.at Γ=some d->g6 K F H d v
 | .d x,v,d,h,q=>by cases q;exact Rep.b e.sub h
 | .v i,v,d,h,q=>by
  obtain⟨u,h1,h2⟩:=e.get q;rw[show σ[i]?=some (some v) from h] at h1;cases h1;exact h2
abbrev TB3:=G->(Bo->G->Prop)->Prop
def PoB (K:Fg0) (B:Bs) (F:Hp) (σ:St) (Q:Bo->G->Prop):VK:=fun v H'=>∃ F' Γ' bo,aB F F'/\En K B F' σ H' Γ'/\rj K F' σ bo v/\Q bo Γ'
def vA (K:Fg0) (t:TE) (t3:TB3):Prop:=∀ (B:Bs) (F:Hp) (σ:St) (H:Hp) (Γ:G) (Q:Bo->G->Prop) (QQ:VK),En K B F σ H Γ->t3 Γ Q->(∀ v H',PoB K B F σ Q v H'->QQ v H')->t σ H QQ
def bor (i:Nat) (Γ:G) (Q:Bo->G->Prop):Prop:=(∃ d,Gat Γ i=some d)/\Q (.v i) Γ
def bof (a3:TE3) (Γ:G) (Q:Bo->G->Prop):Prop:=a3 Γ fun x Γ1=>Q (.d x.d) Γ1
theorem Ec (i:Nat):vA K (cH i) (bor i):=by
 intro B F σ H Γ Q QQ e ⟨⟨d,hd⟩,q⟩ k;obtain⟨v,h1,_⟩:=e.get hd;exact⟨v,h1,k _ _ ⟨F,Γ,.v i,aB.refl F,e,h1,q⟩⟩
theorem G8 {t:TE} {a3:TE3} (h:Ref K t a3):vA K t (bof a3):=by
 intro B F σ H Γ Q QQ e q k;refine h B F σ H Γ _ _ e q (fun v H1 Z=>?_);obtain⟨F1,Γ1,x,s1,e1,r1,q1⟩:=Z;obtain⟨F1',s1',e1',r1'⟩:=e1.frozen r1;exact k _ _ ⟨F1',Γ1,.d x.d,s1.trans s1',e1',r1',q1⟩
def lS (K:Fg0) (r:R2) (op:D->D->TE3):Prop:=∀ (B:Bs) (F:Hp) (σ:St) (H:Hp) (Γ:G) (x y:V) (dx dy:D) (Q:RV->G->Prop) (QQ:VK),En K B F σ H Γ->g6 K F H dx x->g6 K F H dy y->op dx dy Γ Q->(∀ v H',Po K B F σ Q v H'->QQ v H')->r x y H QQ
def nk (op:D->D->TE3) (a3 b3:TB3) (Γ:G) (Q:RV->G->Prop):Prop:=a3 Γ fun x Γ1=>b3 Γ1 fun y Γ2=>∃ dx dy,x.at Γ2=some dx/\y.at Γ2=some dy/\op dx dy Γ2 Q
theorem iM {r:R2} {ta tb:TE} {a3 b3:TB3} {op:D->D->TE3} (h:lS K r op) (ha:vA K ta a3) (hb:vA K tb b3):Ref K (tOp r ta tb) (nk op a3 b3):=by
 intro B F σ H Γ Q QQ e q k;refine ha B F σ H Γ _ _ e q (fun v H1 Z=>?_);obtain⟨F1,Γ1,x,s1,e1,r1,q1⟩:=Z;refine hb B F1 σ H1 Γ1 _ _ e1 q1 (fun u H2 Z=>?_);obtain⟨F2,Γ2,y,s2,e2,r2,dx,dy,h1,h2,q2⟩:=Z;exact h B F2 σ H2 Γ2 v u dx dy Q QQ e2 (e2.bo (r1.mono s2) h1) (e2.bo r2 h2) q2 fun z H3 p=>k z H3 (p.mono (s1.trans s2))
def DY (op:D->TE3) (a3:TB3) (Γ:G) (Q:RV->G->Prop):Prop:=a3 Γ fun x Γ1=>∃ dx,x.at Γ1=some dx/\op dx Γ1 Q
def Nn (K:Fg0) (r:V->Hp->VK->Prop) (op:D->TE3):Prop:=∀ (B:Bs) (F:Hp) (σ:St) (H:Hp) (Γ:G) (x:V) (dx:D) (Q:RV->G->Prop) (QQ:VK),En K B F σ H Γ->g6 K F H dx x->op dx Γ Q->(∀ v H',Po K B F σ Q v H'->QQ v H')->r x H QQ
theorem Ed {r:V->Hp->VK->Prop} {ta:TE} {a3:TB3} {op:D->TE3} (h:Nn K r op) (ha:vA K ta a3):Ref K (fun σ H Q=>ta σ H fun x H1=>r x H1 Q) (DY op a3):=by
 intro B F σ H Γ Q QQ e q k;refine ha B F σ H Γ _ _ e q (fun v H1 Z=>?_);obtain⟨F1,Γ1,x,s1,e1,r1,dx,h1,q1⟩:=Z;exact h B F1 σ H1 Γ1 v dx Q QQ e1 (e1.bo r1 h1) q1 fun z H3 p=>k z H3 (p.mono s1)
end
open PySem L2 PySem.Spec PyProof.Rows
structure P3 (K:Fg0) (X:Cx) (e:Expr) (t:TE) (t3:TE3):Prop where
 pe:PE X e t
 rf:Ref K t t3
structure P3B (K:Fg0) (X:Cx) (e:Expr) (t:TE) (t3:TB3):Prop where
 pe:PE X e t
 rf:vA K t t3
section
variable {K:Fg0} {X:Cx} {a b c:Expr} {ta tb tc:TE} {a3 b3 c3:TB3} {pos:Pos}
theorem P3.opd {e3:TE3} (h:P3 K X a ta e3):P3B K X a ta (bof e3):=⟨h.pe,G8 h.rf⟩
theorem bv (i:Nat) {x:Str} {pos:Pos} (hN:autoParam (X.N[i]?=some x) r0) (hv:autoParam (Vis X.env.scope x) v0) (hd:autoParam ((x == ("__debug__":Str))=false) d0)
  (hcd:autoParam ((x == ("__classdict__":Str))=false) d0):P3B K X (.Name x pos) (cH i) (bor i):=⟨xi hN hv hd hcd,Ec i⟩
theorem iN {B:Bs} {F:Hp} {σ:L2.St} {H:Hp} {Γ:G} {Q:RV->G->Prop} {i:Int} (e:En K B F σ H Γ) (q:Q (.fz (.int i)) Γ):Po K B F σ Q (.int i) H:=i6 (d:=.int i) e rfl q
theorem jG {B:Bs} {F:Hp} {σ:L2.St} {H:Hp} {Γ:G} {Q:RV->G->Prop} {i:Str} (e:En K B F σ H Γ) (q:Q (.fz (.str i)) Γ):Po K B F σ Q (.str i) H:=i6 (d:=.str i) e rfl q
theorem om {B:Bs} {F:Hp} {σ:L2.St} {H:Hp} {Γ:G} {Q:RV->G->Prop} {i:Bool} (e:En K B F σ H Γ) (q:Q (.fz (.bl i)) Γ):Po K B F σ Q (.bl i) H:=i6 (d:=.bl i) e rfl q
theorem p3v (i:Nat) {x:Str} {pos:Pos} (hN:autoParam (X.N[i]?=some x) r0) (hv:autoParam (Vis X.env.scope x) v0) (hd:autoParam ((x == ("__debug__":Str))=false) d0)
  (hcd:autoParam ((x == ("__classdict__":Str))=false) d0):P3 K X (.Name x pos) (cH i) (s_ i):=⟨xi hN hv hd hcd,G9 i⟩
theorem af {i j pos}:P3 K X (.Constant (.int i) j pos) (tC (.int i)) (t3C (.int i)):=⟨AB,vP fun _=>rfl⟩
theorem kP {i j pos}:P3 K X (.Constant (.bool i) j pos) (tC (.bl i)) (t3C (.bl i)):=⟨Mg,vP fun _=>rfl⟩
theorem bF {x j pos}:P3 K X (.Constant (.str x) j pos) (tC (.str x)) (t3C (.str x)):=⟨Kv,vP fun _=>rfl⟩
theorem iu {x:Str} {i:Int} {pos:Pos} (hg:Gl X x) (hm:∃ t,X.mg x=some (.int i t)) (hd:autoParam ((x == ("__debug__":Str))=false) d0):P3 K X (.Name x pos) (tC (.int i)) (t3C (.int i)):=
 ⟨let ⟨t,hm⟩:=hm;xj (v:=.int i) hg hm ⟨t,rfl⟩ hd,vP fun _=>rfl⟩
theorem ER {x y v:Int} {j k:Nat} {pos pos' pos'':Pos} (h:x ^ y.toNat=v) (hc:GF x y):P3 K X (.BinOp (.Constant (.int x) j pos') .Pow (.Constant (.int y) k pos'') pos) (tOp (rI GF fun i j=>.int (i ^ j.toNat)) (tC (.int x)) (tC (.int y))) (t3C (.int v)):=
 ⟨qD EZ AB AB,fun B F σ H Γ Q QQ e q k=>⟨x,y,rfl,rfl,hc,by show QQ (.int (x ^ y.toNat)) H;rw[h];exact k _ _ (iN e q)⟩⟩
def i2 (C:Int->Int->Prop) (f:Int->Int->D) (x y:D) (Γ:G) (Q:RV->G->Prop):Prop:=match x,y with
 | .int i,.int j=>C i j/\Q (.fz (f i j)) Γ
 | _,_=>False
def i2' (f:Int->Int->D) (x y:D) (Γ:G) (Q:RV->G->Prop):Prop:=match x,y with
 | .int i,.int j=>Q (.fz (f i j)) Γ
 | _,_=>False
theorem opI {C:Int->Int->Prop} {f:Int->Int->D} {g:Int->Int->V} (h:∀ F i j,Rep K F (f i j) (g i j)):lS K (rI C g) (i2 C f):=by
 intro B F σ H Γ x y dx dy Q QQ e rx ry q k;unfold i2 at q;split at q
 ·cases rx;cases ry;exact⟨_,_,rfl,rfl,q.1,k _ _ (i6 e (h F _ _) q.2)⟩
 ·exact q.elim
theorem AJ {f:Int->Int->D} {g:Int->Int->V} (h:∀ F i j,Rep K F (f i j) (g i j)):lS K (rI0 g) (i2' f):=by
 intro B F σ H Γ x y dx dy Q QQ e rx ry q k;unfold i2' at q;split at q
 ·cases rx;cases ry;exact⟨_,_,rfl,rfl,k _ _ (i6 e (h F _ _) q)⟩
 ·exact q.elim
def Aa (x y:D) (Γ:G) (Q:RV->G->Prop):Prop:=match x,y with
 | .int i,.int j=>Q (.fz (.int (i + j))) Γ
 | .lst xs,.lst ys=>xs.length + ys.length<=sizeLine/\Q (.fr (.lst (xs++ys))) Γ
 | .str i,.str j=>i.length + j.length<=sizeLine/\Q (.fz (.str (i++j))) Γ
 | _,_=>False
theorem aD.length {F:Hp}:∀ {xs:List D} {vs:List V},aD K F xs vs->vs.length=xs.length
 | [],_,h=>by cases h;rfl
 | _::_,_,Z=>by obtain⟨v,ws,h1,h2,h3⟩:=Z;subst h1;simp [h3.length]
theorem aD.append {F:Hp}:∀ {xs ys:List D} {vs ws:List V},aD K F xs vs->aD K F ys ws->aD K F (xs++ys) (vs++ws)
 | [],_,_,_,h,h'=>by cases h;exact h'
 | _::_,_,_,_,⟨v,ws,h1,h2,h3⟩,h'=>by subst h1;exact⟨v,_,rfl,h2,h3.append h'⟩
theorem aD.get {F:Hp}:∀ {xs:List D} {vs:List V},aD K F xs vs->∀ {i:Nat} {d:D},xs[i]?=some d->∃ v,vs[i]?=some v/\Rep K F d v
 | [],_,_,i,d,e=>by simp at e
 | x::xs,_,⟨v,ws,h1,h2,h3⟩,0,d,e=>by subst h1;simp at e;subst e;exact⟨v,rfl,h2⟩
 | x::xs,_,⟨v,ws,h1,h2,h3⟩,i + 1,d,e=>by
  subst h1;obtain⟨u,a,b⟩:=h3.get (i:=i) (d:=d) (by simpa using e);exact⟨u,by simpa using a,b⟩
theorem aD.Ie {F:Hp}:∀ {xs:List D} {vs:List V},aD K F xs vs->∀ {i:Nat} {v:V},vs[i]?=some v->∃ d,xs[i]?=some d/\Rep K F d v:=fun {xs vs} h {i v} e=>by
 have hi:i < vs.length:=(gS0 e).1;rw[h.length] at hi;obtain⟨u,a,b⟩:=h.get (gE0 hi);rw[e] at a;cases a;exact⟨_,gE0 hi,b⟩
theorem aD.take {F:Hp}:∀ {xs:List D} {vs:List V} (n:Nat),aD K F xs vs->aD K F (xs.take n) (vs.take n)
 | _,_,0,_=>by simp [aD]
 | [],_,n + 1,h=>by cases h;simp [aD]
 | x::xs,_,n + 1,Z=>by obtain⟨v,ws,h1,h2,h3⟩:=Z;subst h1;exact⟨v,_,rfl,h2,aD.take n h3⟩
theorem aD.drop {F:Hp}:∀ {xs:List D} {vs:List V} (n:Nat),aD K F xs vs->aD K F (xs.drop n) (vs.drop n)
 | _,_,0,h=>h
 | [],_,n + 1,h=>by cases h;simp [aD]
 | x::xs,_,n + 1,Z=>by obtain⟨v,ws,h1,h2,h3⟩:=Z;subst h1;exact aD.drop n h3
theorem aD.set {F:Hp} {d:D} {v:V} (r:Rep K F d v):∀ {xs:List D} {vs:List V} (n:Nat),aD K F xs vs->aD K F (xs.set n d) (vs.set n v)
 | [],_,_,h=>by cases h;simp [aD]
 | x::xs,_,0,Z=>by obtain⟨u,ws,h1,h2,h3⟩:=Z;subst h1;exact⟨v,ws,rfl,r,h3⟩
 | x::xs,_,n + 1,Z=>by obtain⟨u,ws,h1,h2,h3⟩:=Z;subst h1;exact⟨u,_,rfl,h2,aD.set r n h3⟩
theorem aD.ints {F:Hp}:∀ (ns:Li0),aD K F (ns.map D.int) (ns.map V.int)
 | []=>rfl
 | n::ns=>⟨_,_,rfl,rfl,aD.ints ns⟩
theorem aD.kX {F:Hp}:∀ {ns:Li0} {vs:List V},aD K F (ns.map D.int) vs->vs=ns.map V.int
 | [],_,h=>h
 | n::ns,_,Z=>by
  obtain⟨v,ws,h1,h2,h3⟩:=Z;rw[h1,aD.kX h3];have:v=.int n:=h2;rw[this];rfl
abbrev Kh:R2:=fun x y H Q=>rI0 (fun i j=>.int (i + j)) x y H Q\/L1 x y H Q\/(∃ i j,x=.str i/\y=.str j/\i.length + j.length<=sizeLine/\Q (.str (i++j)) H)
theorem HG:OpR X (binaryOp .Add) Kh:=KN.or (KL.or AI)
theorem addRef:lS K Kh Aa:=by
 intro B F σ H Γ x y dx dy Q QQ e rx ry q k;unfold Aa at q;split at q
 ·cases rx;cases ry;exact .inl ⟨_,_,rfl,rfl,k _ _ (iN e q)⟩
 ·obtain⟨p,vs,rfl,h1,h2⟩:=rx;obtain⟨p',ws,rfl,h3,h4⟩:=ry;refine .inr (.inl ⟨p,p',vs,ws,rfl,rfl,h1,h3,by rw[h2.length,h4.length];exact q.1,fun l hl=>k _ _ (jH e hl (h2.append h4) q.2)⟩)
 ·cases rx;cases ry;exact .inr (.inr ⟨_,_,rfl,rfl,q.1,k _ _ (jG e q.2)⟩)
 ·exact q.elim
theorem aH (ha:P3B K X a ta a3) (hb:P3B K X b tb b3):P3 K X (.BinOp a .Add b pos) (tOp Kh ta tb) (nk Aa a3 b3):=⟨qD HG ha.pe hb.pe,iM addRef ha.rf hb.rf⟩
theorem cP (ha:P3B K X a ta a3) (hb:P3B K X b tb b3):P3 K X (.BinOp a .Sub b pos) (tOp (rI0 fun i j=>.int (i - j)) ta tb) (nk (i2' fun i j=>.int (i - j)) a3 b3):=⟨qD KD ha.pe hb.pe,iM (AJ fun _ _ _=>rfl) ha.rf hb.rf⟩
theorem ed (ha:P3B K X a ta a3) (hb:P3B K X b tb b3):P3 K X (.BinOp a .Mult b pos) (tOp (rI GG fun i j=>.int (i * j)) ta tb) (nk (i2 GG fun i j=>.int (i * j)) a3 b3):=⟨qD KH ha.pe hb.pe,iM (opI fun _ _ _=>rfl) ha.rf hb.rf⟩
theorem bM (ha:P3B K X a ta a3) (hb:P3B K X b tb b3):P3 K X (.BinOp a .FloorDiv b pos) (tOp (rI Lv fun i j=>.int (i / j)) ta tb) (nk (i2 Lv fun i j=>.int (i / j)) a3 b3):=⟨qD HF ha.pe hb.pe,iM (opI fun _ _ _=>rfl) ha.rf hb.rf⟩
theorem nE (ha:P3B K X a ta a3) (hb:P3B K X b tb b3):P3 K X (.BinOp a .Mod b pos) (tOp (rI (fun _ j=>0 < j) fun i j=>.int (i % j)) ta tb) (nk (i2 (fun _ j=>0 < j) fun i j=>.int (i % j)) a3 b3):=⟨qD KI ha.pe hb.pe,iM (opI fun _ _ _=>rfl) ha.rf hb.rf⟩
theorem BS (ha:P3B K X a ta a3) (hb:P3B K X b tb b3):P3 K X (.BinOp a .Pow b pos) (tOp (rI GF fun i j=>.int (i ^ j.toNat)) ta tb) (nk (i2 GF fun i j=>.int (i ^ j.toNat)) a3 b3):=⟨qD EZ ha.pe hb.pe,iM (opI fun _ _ _=>rfl) ha.rf hb.rf⟩
def zW (f:Int->Int->Bool) (x y:D) (Γ:G) (Q:RV->G->Prop):Prop:=i2' (fun i j=>.bl (f i j)) x y Γ Q
noncomputable abbrev FH (i j:Int):Bool:=decide (i < j)
noncomputable abbrev yd (i j:Int):Bool:=decide (i<=j)
noncomputable abbrev Bc (i j:Int):Bool:=decide (j < i)
structure C3 (K:Fg0) (X:Cx) (op:CmpOp) (r:R2) (o3:D->D->TE3):Prop where
 op:OpR X (compareOp op) r
 rf:lS K r o3
theorem Cu:C3 K X .Lt (rI0 fun i j=>.bl (decide (i < j))) (zW FH):=⟨Mi,AJ fun _ _ _=>rfl⟩
theorem z7:C3 K X .LtE (rI0 fun i j=>.bl (decide (i<=j))) (zW yd):=⟨Mj,AJ fun _ _ _=>rfl⟩
theorem uU:C3 K X .Gt (rI0 fun i j=>.bl (decide (j < i))) (zW Bc):=⟨Ml,AJ fun _ _ _=>rfl⟩
noncomputable def eqS:D->D->Option Bool
 | .int i,.int j=>some (decide (i=j))
 | .str i,.str j=>some (decide (i=j))
 | .bl i,.bl j=>some (decide (i=j))
 | .non,.non=>some true
 | .int _,.str _=>some false
 | .str _,.int _=>some false
 | .bl _,.str _=>some false
 | .str _,.bl _=>some false
 | .non,.int _=>some false
 | .int _,.non=>some false
 | .non,.str _=>some false
 | .str _,.non=>some false
 | .non,.bl _=>some false
 | .bl _,.non=>some false
 | _,_=>none
theorem iP {op:CmpOp} {r:R2} {o3:D->D->TE3} (h:C3 K X op r o3) (ha:P3B K X a ta a3) (hb:P3B K X b tb b3) (hm:behindInMarks op b=false):P3 K X (.Compare a [op] [b] pos) (tOp r ta tb) (nk o3 a3 b3):=⟨Hu h.op ha.pe hb.pe hm,iM h.rf ha.rf hb.rf⟩
def jt (o3 o3':D->D->TE3) (a3 b3 c3:TB3) (Γ:G) (Q:RV->G->Prop):Prop:=a3 Γ fun x Γ1=>b3 Γ1 fun y Γ2=>∃ dx dy,x.at Γ2=some dx/\y.at Γ2=some dy/\o3 dx dy Γ2 fun z Γ3=>match z with
 | .fz (.bl true)=>c3 Γ3 fun w Γ4=>∃ dy dw,y.at Γ4=some dy/\w.at Γ4=some dw/\o3' dy dw Γ4 Q
 | .fz (.bl false)=>Q (.fz (.bl false)) Γ3
 | _=>False
theorem vO {r r':R2} {o3 o3':D->D->TE3} (h:lS K r o3) (h':lS K r' o3') (ha:vA K ta a3) (hb:vA K tb b3) (hc:vA K tc c3):Ref K (sZ r r' ta tb tc) (jt o3 o3' a3 b3 c3):=by
 intro B F σ H Γ Q QQ e q k;refine ha B F σ H Γ _ _ e q (fun v H1 Z=>?_);obtain⟨F1,Γ1,x,s1,e1,r1,q1⟩:=Z;refine hb B F1 σ H1 Γ1 _ _ e1 q1 (fun u H2 Z=>?_);obtain⟨F2,Γ2,y,s2,e2,r2,dx,dy,h1,h2,q2⟩:=Z;refine h B F2 σ H2 Γ2 v u dx dy _ _ e2 (e2.bo (r1.mono s2) h1) (e2.bo r2 h2) q2 fun z H3 Z=>?_;obtain⟨F3,Γ3,z3,s3,e3,r3,q3⟩:=Z;have sall:=(s1.trans s2).trans s3
 revert r3 q3
 split
 ·intro r3 q3;refine⟨true,r3,?_⟩;rw[if_pos rfl];refine hc B F3 σ H3 Γ3 _ _ e3 q3 (fun w H4 Z=>?_);obtain⟨F4,Γ4,w3,s4,e4,r4,dy,dw,h3,h4,q4⟩:=Z;exact h' B F4 σ H4 Γ4 u w dy dw Q QQ e4 (e4.bo (r2.mono (s3.trans s4)) h3) (e4.bo r4 h4) q4 fun z H5 p=>k z H5 (p.mono (sall.trans s4))
 ·intro r3 q3;refine⟨false,r3,?_⟩;rw[if_neg (by simp)];exact k _ _ (Po.mono sall (om e3 q3))
 ·intro _ q3;exact q3.elim
theorem ET {op op':CmpOp} {r r':R2} {o3 o3':D->D->TE3} (h:C3 K X op r o3) (h':C3 K X op' r' o3') (ha:P3B K X a ta a3) (hb:P3B K X b tb b3) (hc:P3B K X c tc c3) (hm:autoParam (lastMarks [op,op'] [b,c]=false) u0) :
  P3 K X (.Compare a [op,op'] [b,c] pos) (sZ r r' ta tb tc) (jt o3 o3' a3 b3 c3):=⟨EI h.op h'.op ha.pe hb.pe hc.pe hm,vO h.rf h'.rf ha.rf hb.rf hc.rf⟩
def Df (x:D) (Γ:G) (Q:RV->G->Prop):Prop:=match x with
 | .int i=>Q (.fz (.int (-i))) Γ
 | _=>False
theorem iO (ha:P3B K X a ta a3):P3 K X (.UnaryOp .USub a pos) (tUn (rU fun i=>.int (-i)) ta) (DY Df a3):=⟨Mc JU ha.pe,Ed (r:=rU fun i=>.int (-i)) (ta:=ta) (by
 intro B F σ H Γ x dx Q QQ e rx q k;unfold Df at q;split at q
 ·cases rx;exact⟨_,rfl,k _ _ (iN e q)⟩
 ·exact q.elim) ha.rf⟩
end
abbrev TT3:=G->(Bool->G->Prop)->Prop
def PoT (K:Fg0) (B:Bs) (F:Hp) (σ:L2.St) (Q:Bool->G->Prop):Bool->Hp->Prop:=fun b H'=>∃ F' Γ',aB F F'/\En K B F' σ H' Γ'/\Q b Γ'
def rX (K:Fg0) (t:TT) (t3:TT3):Prop:=∀ (B:Bs) (F:Hp) (σ:L2.St) (H:Hp) (Γ:G) (Q:Bool->G->Prop) (QQ:Bool->Hp->Prop),En K B F σ H Γ->t3 Γ Q->(∀ b H',PoT K B F σ Q b H'->QQ b H')->t σ H QQ
structure P3T (K:Fg0) (X:Cx) (e:Expr) (t:TT) (t3:TT3):Prop where
 pe:PT X e t
 rf:rX K t t3
structure P3W (K:Fg0) (X:Cx) (e:Expr) (t:TT) (t3:TT3):Prop where
 pe:PW X e t
 rf:rX K t t3
section
variable {K:Fg0} {X:Cx} {a b c:Expr} {ta tb tc:TE} {a3 b3 c3:TE3} {a3' b3' c3':TB3} {pos:Pos} {tA tB':TT} {A3 B3:TT3} {rest:List Expr}
def tst (a3:TE3) (Γ:G) (Q:Bool->G->Prop):Prop:=a3 Γ fun x Γ1=>match x.d with
 | .bl k=>Q k Γ1
 | _=>False
theorem PoT.mono {B:Bs} {F F':Hp} {σ:L2.St} {H:Hp} {Q:Bool->G->Prop} {k:Bool} (s:aB F F') (h:PoT K B F' σ Q k H):PoT K B F σ Q k H:=by
 obtain⟨F2,Γ',a,b⟩:=h;exact⟨F2,Γ',s.trans a,b⟩
theorem Ej (h:Ref K ta a3):rX K (fun σ H Q=>ta σ H fun x H1=>∃ c,x=.bl c/\Q c H1) (tst a3):=by
 intro B F σ H Γ Q QQ e q k;refine h B F σ H Γ _ _ e q (fun v H1 Z=>?_);obtain⟨F1,Γ1,x,s1,e1,r1,q1⟩:=Z;obtain⟨F1',s1',e1',r1'⟩:=e1.frozen r1
 revert r1' q1
 split
 ·rename_i hz;intro q1 r1';rw[hz] at r1';exact⟨_,r1',k _ _ ⟨F1',Γ1,s1.trans s1',e1',q1⟩⟩
 ·intro q1;exact q1.elim
theorem bS {e:Expr} {t:TE} {e3:TE3} (h:P3 K X e t e3) (he:autoParam (∀ whole,isTrue e X.env whole=(do let v <- whole;standAt e.pos;holding [v] (truthy v))) j0):P3T K X e (tB t) (tst e3):=⟨Kk h.pe he,Ej h.rf⟩
theorem aU {op:CmpOp} {r:R2} {o3:D->D->TE3} (h:C3 K X op r o3) (ha:P3B K X a ta a3') (hb:P3B K X b tb b3') (hm:behindInMarks op b=false):P3T K X (.Compare a [op] [b] pos) (Bz (tOp r ta tb)) (tst (nk o3 a3' b3')):=
 ⟨Hi h.op ha.pe hb.pe hm,Ej (iM h.rf ha.rf hb.rf)⟩
theorem C8 {op op':CmpOp} {r r':R2} {o3 o3':D->D->TE3} (h:C3 K X op r o3) (h':C3 K X op' r' o3') (ha:P3B K X a ta a3') (hb:P3B K X b tb b3') (hc:P3B K X c tc c3') (hm:autoParam (lastMarks [op,op'] [b,c]=false) u0) :
  P3T K X (.Compare a [op,op'] [b,c] pos) (Bz (sZ r r' ta tb tc)) (tst (jt o3 o3' a3' b3' c3')):=⟨Es h.op h'.op ha.pe hb.pe hc.pe hm,Ej (vO h.rf h'.rf ha.rf hb.rf hc.rf)⟩
def Lo (A3 B3:TT3) (Γ:G) (Q:Bool->G->Prop):Prop:=A3 Γ fun c Γ1=>match c with
 | true=>B3 Γ1 Q
 | false=>Q false Γ1
def or3 (A3 B3:TT3) (Γ:G) (Q:Bool->G->Prop):Prop:=A3 Γ fun c Γ1=>match c with
 | true=>Q true Γ1
 | false=>B3 Γ1 Q
def KR (A3:TT3) (Γ:G) (Q:Bool->G->Prop):Prop:=A3 Γ fun c Γ1=>Q (!c) Γ1
theorem Hc (ha:rX K tA A3) (hb:rX K tB' B3):rX K (J4 tA tB') (Lo A3 B3):=by
 intro B F σ H Γ Q QQ e q k;refine ha B F σ H Γ _ _ e q (fun c H1 Z=>?_);obtain⟨F1,Γ1,s1,e1,q1⟩:=Z;cases c with
 | true=>exact Dq (hb B F1 σ H1 Γ1 _ _ e1 q1 fun c H2 p=>k _ _ (p.mono s1))
 | false=>exact Dr (k _ _ ⟨F1,Γ1,s1,e1,q1⟩)
theorem Kf (ha:rX K tA A3) (hb:rX K tB' B3):rX K (tOr tA tB') (or3 A3 B3):=by
 intro B F σ H Γ Q QQ e q k;refine ha B F σ H Γ _ _ e q (fun c H1 Z=>?_);obtain⟨F1,Γ1,s1,e1,q1⟩:=Z;cases c with
 | true=>exact Dq (k _ _ ⟨F1,Γ1,s1,e1,q1⟩)
 | false=>exact Dr (hb B F1 σ H1 Γ1 _ _ e1 q1 fun c H2 p=>k _ _ (p.mono s1))
theorem G_ (ha:rX K tA A3):rX K (JZ tA) (KR A3):=by
 intro B F σ H Γ Q QQ e q k;exact ha B F σ H Γ _ _ e q (fun c H1 ⟨F1,Γ1,s1,e1,q1⟩=>k _ _ ⟨F1,Γ1,s1,e1,q1⟩)
theorem y7 (ha:P3T K X a tA A3):P3W K X (.BoolOp .And [a] pos) tA A3:=⟨Hf ha.pe,ha.rf⟩
theorem l4 (ha:P3T K X a tA A3):P3W K X (.BoolOp .Or [a] pos) tA A3:=⟨Ki ha.pe,ha.rf⟩
theorem BR (ha:P3T K X a tA A3) (hb:P3W K X (.BoolOp .And (b::rest) pos) tB' B3):P3W K X (.BoolOp .And (a::b::rest) pos) (J4 tA tB') (Lo A3 B3):=⟨Kj ha.pe hb.pe,Hc ha.rf hb.rf⟩
theorem nD (ha:P3T K X a tA A3) (hb:P3W K X (.BoolOp .Or (b::rest) pos) tB' B3):P3W K X (.BoolOp .Or (a::b::rest) pos) (tOr tA tB') (or3 A3 B3):=⟨L4 ha.pe hb.pe,Kf ha.rf hb.rf⟩
theorem P3W.pt {e:Expr} (h:P3W K X e tA A3):P3T K X e tA A3:=⟨h.pe.pt,h.rf⟩
theorem bU (ha:P3T K X a tA A3):P3T K X (.UnaryOp .Not a pos) (JZ tA) (KR A3):=⟨Kl ha.pe,G_ ha.rf⟩
def wJ (a3 b3'':TE3) (Γ:G) (Q:RV->G->Prop):Prop:=a3 Γ fun x Γ1=>match x.d with
 | .bl true=>b3'' Γ1 Q
 | .bl false=>Q (.fz (.bl false)) Γ1
 | _=>False
def EY (a3 b3'':TE3) (Γ:G) (Q:RV->G->Prop):Prop:=a3 Γ fun x Γ1=>match x.d with
 | .bl true=>Q (.fz (.bl true)) Γ1
 | .bl false=>b3'' Γ1 Q
 | _=>False
theorem xl {op} (h:P3 K X a ta a3):P3 K X (.BoolOp op [a] pos) ta a3:=⟨Kw h.pe,h.rf⟩
theorem AF (ha:P3 K X a ta a3) (hb:P3 K X (.BoolOp .And (b::rest) pos) tb b3):P3 K X (.BoolOp .And (a::b::rest) pos) (IM ta tb) (wJ a3 b3):=⟨KA ha.pe hb.pe,by
 intro B F σ H Γ Q QQ e q k;refine ha.rf B F σ H Γ _ _ e q (fun v H1 Z=>?_);obtain⟨F1,Γ1,x,s1,e1,r1,q1⟩:=Z;obtain⟨F1',s1',e1',r1'⟩:=e1.frozen r1
 revert r1' q1
 split
 ·rename_i hz;intro q1 r1';rw[hz] at r1';exact⟨true,r1',Dq (hb.rf B F1' σ H1 Γ1 _ _ e1' q1 fun v H2 p=>k _ _ (p.mono (s1.trans s1')))⟩
 ·rename_i hz;intro q1 r1';rw[hz] at r1';exact⟨false,r1',Dr (k _ _ (Po.mono (s1.trans s1') (om e1' q1)))⟩
 ·intro q1;exact q1.elim⟩
theorem Mh (ha:P3 K X a ta a3) (hb:P3 K X (.BoolOp .Or (b::rest) pos) tb b3):P3 K X (.BoolOp .Or (a::b::rest) pos) (LI ta tb) (EY a3 b3):=⟨Md ha.pe hb.pe,by
 intro B F σ H Γ Q QQ e q k;refine ha.rf B F σ H Γ _ _ e q (fun v H1 Z=>?_);obtain⟨F1,Γ1,x,s1,e1,r1,q1⟩:=Z;obtain⟨F1',s1',e1',r1'⟩:=e1.frozen r1
 revert r1' q1
 split
 ·rename_i hz;intro q1 r1';rw[hz] at r1';exact⟨true,r1',Dq (k _ _ (Po.mono (s1.trans s1') (om e1' q1)))⟩
 ·rename_i hz;intro q1 r1';rw[hz] at r1';exact⟨false,r1',Dr (hb.rf B F1' σ H1 Γ1 _ _ e1' q1 fun v H2 p=>k _ _ (p.mono (s1.trans s1')))⟩
 ·intro q1;exact q1.elim⟩
end
abbrev TA3:=G->(List D->G->Prop)->Prop
def PoA (K:Fg0) (B:Bs) (F:Hp) (σ:L2.St) (Q:List D->G->Prop):List V->Hp->Prop:=fun vs H'=>∃ F' Γ' ds,aB F F'/\En K B F' σ H' Γ'/\aD K F' ds vs/\Q ds Γ'
def Nr (K:Fg0) (t:TA) (t3:TA3):Prop:=∀ (B:Bs) (F:Hp) (σ:L2.St) (H:Hp) (Γ:G) (Q:List D->G->Prop) (QQ:List V->Hp->Prop),En K B F σ H Γ->t3 Γ Q->(∀ vs H',PoA K B F σ Q vs H'->QQ vs H')->t σ H QQ
structure P3A (K:Fg0) (X:Cx) (es:List Expr) (t:TA) (t3:TA3):Prop where
 pe:PA X es t
 rf:Nr K t t3
section
variable {K:Fg0} {X:Cx} {e:Expr} {es:List Expr} {te:TE} {e3:TE3} {t:TA} {t3:TA3} {pos:Pos}
def E8 (Γ:G) (Q:List D->G->Prop):Prop:=Q [] Γ
def m_ (e3:TE3) (t3:TA3) (Γ:G) (Q:List D->G->Prop):Prop:=e3 Γ fun x Γ1=>t3 Γ1 fun xs Γ2=>Q (x.d::xs) Γ2
theorem az:P3A K X [] rz E8:=⟨qe,fun B F σ H Γ Q QQ e q k=>k _ _ ⟨F,Γ,[],aB.refl F,e,rfl,q⟩⟩
theorem ag (ha:P3 K X e te e3) (hr:P3A K X es t t3) (hs:autoParam (starEach (e::es) X.env=(false,eval e X.env)::starEach es X.env) r0):P3A K X (e::es) (kq te t) (m_ e3 t3):=⟨gf ha.pe hr.pe hs,by
 intro B F σ H Γ Q QQ e q k;refine ha.rf B F σ H Γ _ _ e q (fun v H1 Z=>?_);obtain⟨F1,Γ1,x,s1,e1,r1,q1⟩:=Z;obtain⟨F1',s1',e1',r1'⟩:=e1.frozen r1;refine hr.rf B F1' σ H1 Γ1 _ _ e1' q1 (fun vs H2 Z=>?_);obtain⟨F2,Γ2,ds,s2,e2,r2,q2⟩:=Z;exact k _ _ ⟨F2,Γ2,x.d::ds,(s1.trans s1').trans s2,e2,⟨v,vs,rfl,r1'.mono s2,r2⟩,q2⟩⟩
def MC (t3:TA3) (Γ:G) (Q:RV->G->Prop):Prop:=t3 Γ fun xs Γ1=>xs.length<=sizeLine/\Q (.fr (.lst xs)) Γ1
def DU (t3:TA3) (Γ:G) (Q:RV->G->Prop):Prop:=t3 Γ fun xs Γ1=>xs.length<=sizeLine/\Q (.fz (.tup xs)) Γ1
theorem dD (h:P3A K X es t t3):P3 K X (.List es pos) (LJ t) (MC t3):=⟨Kx h.pe,by
 intro B F σ H Γ Q QQ e q k;refine h.rf B F σ H Γ _ _ e q (fun vs H1 Z=>?_);obtain⟨F1,Γ1,ds,s1,e1,r1,q1⟩:=Z;exact⟨by rw[r1.length];exact q1.1,fun p hp=>k _ _ (Po.mono s1 (jH e1 hp r1 q1.2))⟩⟩
theorem eN {x1} (h:P3A K X es t t3):P3 K X (.Tuple es x1 pos) (GQ t) (DU t3):=⟨Az h.pe,by
 intro B F σ H Γ Q QQ e q k;refine h.rf B F σ H Γ _ _ e q (fun vs H1 Z=>?_);obtain⟨F1,Γ1,ds,s1,e1,r1,q1⟩:=Z;exact⟨by rw[r1.length];exact q1.1,fun p hp=>k _ _ (Po.mono s1 (BN e1 hp r1 q1.2))⟩⟩
end
abbrev eA:=G->(List Bo->G->Prop)->Prop
def a9 (K:Fg0) (F:Hp) (σ:L2.St):List Bo->List V->Prop
 | [],vs=>vs=[]
 | b::bs,vs=>∃ v ws,vs=v::ws/\rj K F σ b v/\a9 K F σ bs ws
def rk (K:Fg0) (F H:Hp):List D->List V->Prop
 | [],vs=>vs=[]
 | d::ds,vs=>∃ v ws,vs=v::ws/\g6 K F H d v/\rk K F H ds ws
noncomputable def ats (Γ:G):List Bo->Option (List D)
 | []=>some []
 | b::bs=>match b.at Γ,ats Γ bs with
  | some d,some ds=>some (d::ds)
  | _,_=>none
def NU (K:Fg0) (B:Bs) (F:Hp) (σ:L2.St) (Q:List Bo->G->Prop):List V->Hp->Prop:=fun vs H'=>∃ F' Γ' bs,aB F F'/\En K B F' σ H' Γ'/\a9 K F' σ bs vs/\Q bs Γ'
def rm (K:Fg0) (t:TA) (t3:eA):Prop:=∀ (B:Bs) (F:Hp) (σ:L2.St) (H:Hp) (Γ:G) (Q:List Bo->G->Prop) (QQ:List V->Hp->Prop),En K B F σ H Γ->t3 Γ Q->(∀ vs H',NU K B F σ Q vs H'->QQ vs H')->t σ H QQ
structure rY (K:Fg0) (X:Cx) (es:List Expr) (t:TA) (t3:eA):Prop where
 pe:PA X es t
 rf:rm K t t3
section
variable {K:Fg0} {X:Cx} {e:Expr} {es:List Expr} {te:TE} {e3:TB3} {t:TA} {t3:eA} {pos:Pos} {B:Bs} {F H:Hp} {σ:L2.St} {Γ:G}
theorem En.bos (e:En K B F σ H Γ):∀ {bs:List Bo} {vs:List V} {ds:List D},a9 K F σ bs vs->ats Γ bs=some ds->rk K F H ds vs
 | [],_,_,h,q=>by cases q;exact h
 | b::bs,_,_,⟨v,ws,h1,h2,h3⟩,q=>by
  unfold ats at q;split at q
  ·rename_i d ds hd hds;cases q;exact⟨v,ws,h1,e.bo h2 hd,e.bos h3 hds⟩
  ·cases q
def HJ (Γ:G) (Q:List Bo->G->Prop):Prop:=Q [] Γ
def JG (e3:TB3) (t3:eA) (Γ:G) (Q:List Bo->G->Prop):Prop:=e3 Γ fun x Γ1=>t3 Γ1 fun xs Γ2=>Q (x::xs) Γ2
theorem ab:rY K X [] rz HJ:=⟨qe,fun B F σ H Γ Q QQ e q k=>k _ _ ⟨F,Γ,[],aB.refl F,e,rfl,q⟩⟩
theorem aa (ha:P3B K X e te e3) (hr:rY K X es t t3) (hs:autoParam (starEach (e::es) X.env=(false,eval e X.env)::starEach es X.env) r0):rY K X (e::es) (kq te t) (JG e3 t3):=⟨gf ha.pe hr.pe hs,by
 intro B F σ H Γ Q QQ e q k;refine ha.rf B F σ H Γ _ _ e q (fun v H1 Z=>?_);obtain⟨F1,Γ1,x,s1,e1,r1,q1⟩:=Z;refine hr.rf B F1 σ H1 Γ1 _ _ e1 q1 (fun vs H2 Z=>?_);obtain⟨F2,Γ2,ds,s2,e2,r2,q2⟩:=Z;exact k _ _ ⟨F2,Γ2,x::ds,s1.trans s2,e2,⟨v,vs,rfl,r1.mono s2,r2⟩,q2⟩⟩
def CH (K:Fg0) (r:List V->Hp->VK->Prop) (c3:List D->TE3):Prop:=∀ (B:Bs) (F:Hp) (σ:L2.St) (H:Hp) (Γ:G) (vs:List V) (ds:List D) (Q:RV->G->Prop) (QQ:VK),En K B F σ H Γ->rk K F H ds vs->c3 ds Γ Q->(∀ v H',Po K B F σ Q v H'->QQ v H')->r vs H QQ
def zZ (c3:List D->TE3) (t3:eA) (Γ:G) (Q:RV->G->Prop):Prop:=t3 Γ fun bs Γ1=>∃ ds,ats Γ1 bs=some ds/\c3 ds Γ1 Q
theorem Ei {r:List V->Hp->VK->Prop} {c3:List D->TE3} (h:CH K r c3) (ha:rm K t t3):Ref K (tCB r t) (zZ c3 t3):=by
 intro B F σ H Γ Q QQ e q k;refine ha B F σ H Γ _ _ e q (fun vs H1 Z=>?_);obtain⟨F1,Γ1,bs,s1,e1,r1,ds,hd,q1⟩:=Z;exact h B F1 σ H1 Γ1 vs ds Q QQ e1 (e1.bos r1 hd) q1 fun v H2 p=>k _ _ (p.mono s1)
structure B3 (K:Fg0) (X:Cx) (f:Value) (r:List V->Hp->VK->Prop) (c3:List D->TE3):Prop where
 op:bV X f r
 rf:CH K r c3
variable {x:Str} {p:Pos} {id T:String} {r:List V->Hp->VK->Prop} {c3:List D->TE3}
theorem aE (hc:B3 K X (.builtin id) r c3) (hg:Gl X x) (hm:X.mg x=none) (hv:bootBuiltins x=some (.builtin id)) (ha:rY K X (e::es) t t3) (hn:autoParam (x≠"__name__") d0) (hdb:autoParam ((x == ("__debug__":Str))=false) d0)
  (he:autoParam (starEach (e::es) X.env=(false,eval e X.env)::starEach es X.env) r0) (hpl:autoParam ((backTo pos (starEach es X.env)).any (·.1)=false) r0):P3 K X (.Call (.Name x p) (e::es) [] pos) (tCB r t) (zZ c3 t3):=
 ⟨EL hc.op hg hm hv ha.pe hn hdb he hpl,Ei hc.rf ha.rf⟩
theorem bX (hc:B3 K X (.type T) r c3) (hg:Gl X x) (hm:X.mg x=none) (hv:bootBuiltins x=some (.type T)) (ha:rY K X (e::es) t t3) (hn:autoParam (x≠"__name__") d0) (hdb:autoParam ((x == ("__debug__":Str))=false) d0)
  (he:autoParam (starEach (e::es) X.env=(false,eval e X.env)::starEach es X.env) r0) (hpl:autoParam ((backTo pos (starEach es X.env)).any (·.1)=false) r0):P3 K X (.Call (.Name x p) (e::es) [] pos) (tCB r t) (zZ c3 t3):=
 ⟨C7 hc.op hg hm hv ha.pe hn hdb he hpl,Ei hc.rf ha.rf⟩
def IG (ds:List D) (Γ:G) (Q:RV->G->Prop):Prop:=match ds with
 | [.int i]=>Q (.fz (.int (if i < 0 then -i else i))) Γ
 | _=>False
def mx3 (f:Int->Int->Int) (ds:List D) (Γ:G) (Q:RV->G->Prop):Prop:=match ds with
 | [.int i,.int j]=>Q (.fz (.int (f i j))) Γ
 | _=>False
theorem rk.one {d:D} {vs:List V} (h:rk K F H [d] vs):∃ v,vs=[v]/\g6 K F H d v:=by
 obtain⟨v,ws,rfl,h1,h2⟩:=h;cases h2;exact⟨v,rfl,h1⟩
theorem rk.two {d e:D} {vs:List V} (h:rk K F H [d,e] vs):∃ v w,vs=[v,w]/\g6 K F H d v/\g6 K F H e w:=by
 obtain⟨v,ws,rfl,h1,h2⟩:=h;obtain⟨w,rfl,h3⟩:=rk.one h2;exact⟨v,w,rfl,h1,h3⟩
noncomputable abbrev fmax (i j:Int):Int:=if j > i then j else i
noncomputable abbrev fmin (i j:Int):Int:=if j < i then j else i
theorem Gj (hc:X.calm=true):B3 K X (.builtin "max") (fun xs H Q=>∃ i j,xs=[.int i,.int j]/\Q (.int (if j > i then j else i)) H) (mx3 fmax):=⟨DF hc,by
 intro B F σ H Γ vs ds Q QQ e r q k;unfold mx3 at q;split at q
 ·obtain⟨v,w,rfl,h,h'⟩:=r.two;cases h;cases h';exact⟨_,_,rfl,k _ _ (iN e q)⟩
 ·exact q.elim⟩
theorem Gi (hc:X.calm=true):B3 K X (.builtin "min") (fun xs H Q=>∃ i j,xs=[.int i,.int j]/\Q (.int (if j < i then j else i)) H) (mx3 fmin):=⟨DE hc,by
 intro B F σ H Γ vs ds Q QQ e r q k;unfold mx3 at q;split at q
 ·obtain⟨v,w,rfl,h,h'⟩:=r.two;cases h;cases h';exact⟨_,_,rfl,k _ _ (iN e q)⟩
 ·exact q.elim⟩
def A7 (ds:List D) (Γ:G) (Q:RV->G->Prop):Prop:=match ds with
 | [.int i]=>Q (.fz (.int i)) Γ
 | [.bl k]=>Q (.fz (.int (if k then 1 else 0))) Γ
 | _=>False
theorem z5:B3 K X (.type "int") (fun xs H Q=>(∃ i,xs=[.int i]/\Q (.int i) H)\/∃ k,xs=[.bl k]/\Q (.int (if k then 1 else 0)) H) A7:=⟨DG,by
 intro B F σ H Γ vs ds Q QQ e r q k;unfold A7 at q;split at q
 ·obtain⟨v,rfl,h⟩:=r.one;cases h;exact .inl ⟨_,rfl,k _ _ (iN e q)⟩
 ·obtain⟨v,rfl,h⟩:=r.one;cases h;exact .inr ⟨_,rfl,k _ _ (iN e q)⟩
 ·exact q.elim⟩
noncomputable def A1:D->Option Nat
 | .lst xs=>some xs.length
 | .tup xs=>some xs.length
 | .ktup xs=>some xs.length
 | .scr ns=>some ns.length
 | _=>none
def A2 (ds:List D) (Γ:G) (Q:RV->G->Prop):Prop:=match ds with
 | [.str z]=>z.length<=sizeLine/\Q (.fz (.int z.length)) Γ
 | [d]=>∃ n,A1 d=some n/\Q (.fz (.int n)) Γ
 | _=>False
abbrev NC (K:Fg0):List V->Hp->VK->Prop:=fun xs H Q=>(∃ p ys,xs=[.ref p]/\(SqL K H p ys\/SqT K H p ys)/\Q (.int ys.length) H)\/(∃ z,xs=[.str z]/\z.length<=sizeLine/\Q (.int z.length) H)
theorem bV.or' {f:Value} {r r':List V->Hp->VK->Prop} (h:bV X f r) (h':bV X f r'):bV X f (fun xs H Q=>r xs H Q\/r' xs H Q):=by
 intro pins s σ H xs us Q I rx q;rcases q with q | q
 ·exact h pins s σ H xs us Q I rx q
 ·exact h' pins s σ H xs us Q I rx q
theorem HW {d:D} {v:V} {n:Nat} (s:aB F H) (h:g6 K F H d v) (hn:A1 d=some n):∃ p ys,v=.ref p/\(SqL K H p ys\/SqT K H p ys)/\ys.length=n:=by
 unfold A1 at hn;split at hn
 ·cases hn;obtain⟨p,vs,rfl,h1,h2⟩:=h;exact⟨p,vs,rfl,.inl (SqL.of h1),h2.length⟩
 ·cases hn;obtain⟨p,vs,rfl,h1,h2⟩:=h;exact⟨p,vs,rfl,.inr (.inl (.inl (s _ _ h1))),h2.length⟩
 ·cases hn;obtain⟨p,vs,rfl,h1,h2⟩:=h;exact⟨p,vs,rfl,.inr (SqT.same s h1),h2.length⟩
 ·cases hn;obtain⟨p,rfl,h1⟩:=h;exact⟨p,_,rfl,.inl (s.seq h1),by simp⟩
 ·cases hn
theorem dJ (hK:X.K=K):B3 K X (.builtin "len") (NC K) A2:=⟨by subst hK;exact bV.or' yw yu,by
 intro B F σ H Γ vs ds Q QQ e r q k;unfold A2 at q;split at q
 ·obtain⟨v,rfl,h⟩:=r.one;cases h;exact .inr ⟨_,rfl,q.1,k _ _ (iN e q.2)⟩
 ·obtain⟨v,rfl,h⟩:=r.one;obtain⟨n,hn,q⟩:=q;obtain⟨p,ys,rfl,hs,hl⟩:=HW e.sub h hn;subst hl;exact .inl ⟨p,ys,rfl,hs,k _ _ (iN e q)⟩
 ·exact q.elim⟩
end
section
variable {K:Fg0} {X:Cx} {a b c:Expr} {ta tb tc:TE} {a3 b3 c3:TB3} {pos:Pos} {B:Bs} {F H:Hp} {σ:L2.St} {Γ:G}
theorem aD.atI {xs:List D} {vs:List V} (h:aD K F xs vs) {i:Int} {d:D} (e:atI xs i=some d):∃ v,L2.atI vs i=some v/\Rep K F d v:=by
 unfold L2.atI at e ⊢;rw[h.length];cases q:ixN xs.length i with
 | none=>rw[q] at e;cases e
 | some j=>
  rw[q] at e;exact h.get e
def ix3 (x y:D) (Γ:G) (Q:RV->G->Prop):Prop:=match x,y with
 | .lst xs,.int i=>∃ d,atI xs i=some d/\Q (.fz d) Γ
 | .tup xs,.int i=>∃ d,atI xs i=some d/\Q (.fz d) Γ
 | .ktup xs,.int i=>∃ d,atI xs i=some d/\Q (.fz d) Γ
 | .scr ns,.int i=>∃ n,atI ns i=some n/\Q (.fz (.int n)) Γ
 | .str z,.int i=>z.length<=sizeLine/\∃ c,atI z.cps.toList i=some c/\Q (.fz (.str ⟨#[c]⟩)) Γ
 | _,_=>False
theorem yD {α β:Type} {f:α->β} {xs:List α} {i:Int} {d:α} (e:atI xs i=some d):atI (xs.map f) i=some (f d):=by
 unfold L2.atI at e ⊢;rw[lM0];cases q:ixN xs.length i with
 | none=>rw[q] at e;cases e
 | some j=>
  rw[q] at e;show (xs.map f)[j]?=_;rw[List.getElem?_map,show xs[j]?=some d from e]
  rfl
theorem MH:lS K (rIx K) ix3:=by
 intro B F σ H Γ x y dx dy Q QQ e rx ry q k;unfold ix3 at q;split at q
 ·obtain⟨d,hd,q⟩:=q;obtain⟨p,vs,rfl,h1,h2⟩:=rx;cases ry;obtain⟨v,hv,r⟩:=h2.atI hd;exact .inl ⟨p,vs,_,v,rfl,rfl,SqL.of h1,hv,k _ _ (i6 e r q)⟩
 ·obtain⟨d,hd,q⟩:=q;obtain⟨p,vs,rfl,h1,h2⟩:=rx;cases ry;obtain⟨v,hv,r⟩:=h2.atI hd;exact .inr (.inl ⟨p,vs,_,v,rfl,rfl,.inl (.inl (e.sub _ _ h1)),hv,k _ _ (i6 e r q)⟩)
 ·obtain⟨d,hd,q⟩:=q;obtain⟨p,vs,rfl,h1,h2⟩:=rx;cases ry;obtain⟨v,hv,r⟩:=h2.atI hd;exact .inr (.inl ⟨p,vs,_,v,rfl,rfl,SqT.same e.sub h1,hv,k _ _ (i6 e r q)⟩)
 ·obtain⟨d,hd,q⟩:=q;obtain⟨p,rfl,h1⟩:=rx;cases ry;exact .inl ⟨p,_,_,.int d,rfl,rfl,e.sub.seq h1,yD hd,k _ _ (iN e q)⟩
 ·cases rx;cases ry;obtain⟨hz,c,hc,q⟩:=q;exact .inr (.inr ⟨_,_,c,rfl,rfl,hz,hc,k _ _ (jG e q)⟩)
 ·exact q.elim
theorem aO (hK:X.K=K) (ha:P3B K X a ta a3) (hb:P3B K X b tb b3) (hs:CF b):P3 K X (.Subscript a b pos) (tOp (rIx K) ta tb) (nk ix3 a3 b3):=⟨Me (by subst hK;exact K_) ha.pe hb.pe hs,iM MH ha.rf hb.rf⟩
noncomputable def cut {α:Type} (xs:List α) (lo hi:Option Int):List α:=(xs.drop (HT.sIx xs.length 0 lo)).take (HT.sIx xs.length xs.length hi - HT.sIx xs.length 0 lo)
noncomputable def pk {α:Type} (xs:List α) (lo hi st:Option Int):List α:=(sliceRange (sliceBounds lo hi st xs.length).1 (sliceBounds lo hi st xs.length).2.1 (sliceBounds lo hi st xs.length).2.2).filterMap (xs[·]?)
theorem aD.cut {xs:List D} {vs:List V} (h:aD K F xs vs) (lo hi:Option Int):aD K F (cut xs lo hi) (zS vs lo hi):=by
 unfold L3.cut zS;rw[h.length];exact(h.drop _).take _
theorem aD.places {xs:List D} {vs:List V} (h:aD K F xs vs):∀ js:List Nat,aD K F (js.filterMap (xs[·]?)) (js.filterMap (vs[·]?))
 | []=>rfl
 | j::js=>by
  have ih:=h.places js;cases hn:xs[j]? with
  | some x=>
   obtain⟨u,hu,r⟩:=h.get hn;simp only[List.filterMap_cons,hn,hu];exact⟨u,_,rfl,r,ih⟩
  | none=>
   have hv:vs[j]?=none:=by
    rw[List.getElem?_eq_none_iff] at hn ⊢;rw[h.length];exact hn
   simp only[List.filterMap_cons,hn,hv];exact ih
theorem aD.pk {xs:List D} {vs:List V} (h:aD K F xs vs) (lo hi st:Option Int):aD K F (pk xs lo hi st) (kN vs lo hi st):=by
 unfold L3.pk kN;rw[h.length];exact h.places _
abbrev TO3:=G->(Option Int->G->Prop)->Prop
def NT (K:Fg0) (t:TO) (t3:TO3):Prop:=∀ (B:Bs) (F:Hp) (σ:L2.St) (H:Hp) (Γ:G) (Q:Option Int->G->Prop) (QQ:Option Int->Hp->Prop),En K B F σ H Γ->t3 Γ Q->(∀ o H',(∃ F' Γ',aB F F'/\En K B F' σ H' Γ'/\Q o Γ')->QQ o H')->t σ H QQ
structure P3O (K:Fg0) (X:Cx) (e:Option Expr) (t:TO) (t3:TO3):Prop where
 pe:PO X e t
 rf:NT K t t3
def I9 (Γ:G) (Q:Option Int->G->Prop):Prop:=Q none Γ
def IQ (a3:TB3) (Γ:G) (Q:Option Int->G->Prop):Prop:=a3 Γ fun x Γ1=>∃ i,x.at Γ1=some (.int i)/\Q (some i) Γ1
theorem bp:P3O K X none BA I9:=⟨Hk,fun B F σ H Γ Q QQ e q k=>k _ _ ⟨F,Γ,aB.refl F,e,q⟩⟩
theorem aX (h:P3B K X a ta a3):P3O K X (some a) (IL ta) (IQ a3):=⟨Hj h.pe,by
 intro B F σ H Γ Q QQ e q k;refine h.rf B F σ H Γ _ _ e q (fun v H1 Z=>?_);obtain⟨F1,Γ1,x,s1,e1,r1,i,h1,q1⟩:=Z;have:v=.int i:=e1.bo r1 h1;exact⟨i,this,k _ _ ⟨F1,Γ1,s1,e1,q1⟩⟩⟩
def sl3 (a3:TB3) (l3 h3:TO3) (Γ:G) (Q:RV->G->Prop):Prop:=a3 Γ fun x Γ1=>l3 Γ1 fun lo Γ2=>h3 Γ2 fun hi Γ3=>∃ xs,x.at Γ3=some (.lst xs)/\Q (.fr (.lst (cut xs lo hi))) Γ3
theorem cA {lo hi:Option Expr} {tl th:TO} {l3 h3:TO3} {p2:Pos} (hK:X.K=K) (ha:P3B K X a ta a3) (hl:P3O K X lo tl l3) (hh:P3O K X hi th h3):P3 K X (.Subscript a (.Slice lo hi none p2) pos) (tSl (LW K) ta tl th) (sl3 a3 l3 h3):=
 ⟨EF (by subst hK;exact GW) ha.pe hl.pe hh.pe,by
 intro B F σ H Γ Q QQ e q k;refine ha.rf B F σ H Γ _ _ e q (fun v H1 Z=>?_);obtain⟨F1,Γ1,x,s1,e1,r1,q1⟩:=Z;refine hl.rf B F1 σ H1 Γ1 _ _ e1 q1 (fun lo H2 Z=>?_);obtain⟨F2,Γ2,s2,e2,q2⟩:=Z;refine hh.rf B F2 σ H2 Γ2 _ _ e2 q2 (fun hi H3 Z=>?_);obtain⟨F3,Γ3,s3,e3,xs,h3,q3⟩:=Z;obtain⟨p,vs,rfl,h4,h5⟩:=e3.bo (r1.mono (s2.trans s3)) h3;exact⟨p,vs,rfl,SqL.of h4,fun l hl=>k _ _ (Po.mono ((s1.trans s2).trans s3) (jH e3 hl (h5.cut lo hi) q3))⟩⟩
def D5 (a3:TB3) (l3 h3 s3:TO3) (Γ:G) (Q:RV->G->Prop):Prop:=a3 Γ fun x Γ1=>l3 Γ1 fun lo Γ2=>h3 Γ2 fun hi Γ3=>s3 Γ3 fun st Γ4=>st≠some 0/\∃ xs,x.at Γ4=some (.lst xs)/\Q (.fr (.lst (pk xs lo hi st))) Γ4
theorem gm {lo hi:Option Expr} {st:Expr} {tl th ts:TO} {l3 h3 s3:TO3} {p2:Pos} (hK:X.K=K) (ha:P3B K X a ta a3) (hl:P3O K X lo tl l3) (hh:P3O K X hi th h3) (hs:P3O K X (some st) ts s3):P3 K X (.Subscript a (.Slice lo hi (some st) p2) pos) (LG K ta tl th ts) (D5 a3 l3 h3 s3):=
 ⟨by subst hK;exact C5 ha.pe hl.pe hh.pe hs.pe,by
 intro B F σ H Γ Q QQ e q k;refine ha.rf B F σ H Γ _ _ e q (fun v H1 Z=>?_);obtain⟨F1,Γ1,x,s1,e1,r1,q1⟩:=Z;refine hl.rf B F1 σ H1 Γ1 _ _ e1 q1 (fun lo H2 Z=>?_);obtain⟨F2,Γ2,s2,e2,q2⟩:=Z;refine hh.rf B F2 σ H2 Γ2 _ _ e2 q2 (fun hi H3 Z=>?_);obtain⟨F3,Γ3,s3,e3,q3⟩:=Z;refine hs.rf B F3 σ H3 Γ3 _ _ e3 q3 (fun st H4 Z=>?_);obtain⟨F4,Γ4,s4,e4,hst,xs,h4,q4⟩:=Z;obtain⟨p,vs,rfl,h5,h6⟩:=e4.bo (r1.mono ((s2.trans s3).trans s4)) h4;exact⟨hst,p,vs,rfl,SqL.of h5,fun l hl=>k _ _ (Po.mono (((s1.trans s2).trans s3).trans s4) (jH e4 hl (h6.pk lo hi st) q4))⟩⟩
noncomputable def kW:D->Option (List D)
 | .lst xs=>some xs
 | .tup xs=>some xs
 | .ktup xs=>some xs
 | .scr ns=>some (ns.map .int)
 | _=>none
theorem vZ {d:D} {v:V} {xs:List D} (s:aB F H) (h:g6 K F H d v) (hn:kW d=some xs):∃ p ys,v=.ref p/\(SqL K H p ys\/SqT K H p ys)/\aD K F xs ys:=by
 unfold kW at hn;split at hn
 ·cases hn;obtain⟨p,vs,rfl,h1,h2⟩:=h;exact⟨p,vs,rfl,.inl (SqL.of h1),h2⟩
 ·cases hn;obtain⟨p,vs,rfl,h1,h2⟩:=h;exact⟨p,vs,rfl,.inr (.inl (.inl (s _ _ h1))),h2⟩
 ·cases hn;obtain⟨p,vs,rfl,h1,h2⟩:=h;exact⟨p,vs,rfl,.inr (SqT.same s h1),h2⟩
 ·cases hn;obtain⟨p,rfl,h1⟩:=h;exact⟨p,_,rfl,.inl (s.seq h1),aD.ints _⟩
 ·cases hn
def vY (ds:List D) (Γ:G) (Q:RV->G->Prop):Prop:=match ds with
 | [d]=>∃ xs,kW d=some xs/\Q (.fr (.lst xs)) Γ
 | _=>False
theorem yz (hK:X.K=K):B3 K X (.type "list") (fun xs H Q=>∃ p ys,xs=[.ref p]/\(SqL K H p ys\/SqT K H p ys)/\∀ l,H l=none->Q (.ref l) (upd H l (.lst ys))) vY:=⟨by subst hK;exact yr,by
 intro B F σ H Γ vs ds Q QQ e r q k;unfold vY at q;split at q
 ·obtain⟨v,rfl,h⟩:=r.one;obtain⟨xs,hn,q⟩:=q;obtain⟨p,ys,rfl,hs,hl⟩:=vZ e.sub h hn;exact⟨p,ys,rfl,hs,fun l hf=>k _ _ (jH e hf hl q)⟩
 ·exact q.elim⟩
def p3 (ds:List D) (Γ:G) (Q:RV->G->Prop):Prop:=match ds with
 | [.lst xs]=>Q (.fz (.tup xs)) Γ
 | _=>False
theorem yy (hK:X.K=K):B3 K X (.type "tuple") (fun xs H Q=>∃ p ys,xs=[.ref p]/\((SqL K H p ys/\∀ l,H l=none->Q (.ref l) (upd H l (.tup ys)))\/(SqT K H p ys/\Q (.ref p) H))) p3:=⟨by subst hK;exact vt,by
 intro B F σ H Γ vs ds Q QQ e r q k;unfold p3 at q;split at q
 ·obtain⟨v,rfl,p,ys,rfl,h1,h2⟩:=r.one;exact⟨p,ys,rfl,.inl ⟨SqL.of h1,fun l hf=>k _ _ (BN e hf h2 q)⟩⟩
 ·exact q.elim⟩
noncomputable def knD:D->Bool
 | .non=>true | .bl _=>true | .int _=>true | .str _=>true | .lst _=>true | .tup _=>true | .dct=>true | .dcs _ _=>true | _=>false
theorem Fm {d:D} {v:V} (s:aB F H) (h:g6 K F H d v) (hk:knD d=true):Kn H v:=by
 unfold knD at hk;split at hk
 ·cases h;exact .non
 ·cases h;exact .bl _
 ·cases h;exact .int _
 ·cases h;exact .str _
 ·obtain⟨p,vs,rfl,h1,_⟩:=h;exact .lst h1
 ·obtain⟨p,vs,rfl,h1,_⟩:=h;exact .tup (s _ _ h1)
 ·obtain⟨p,rfl,h1⟩:=h;exact .dK (s _ _ h1)
 ·obtain⟨p,rfl,h1⟩:=h;exact .dK (s _ _ h1)
 ·cases hk
noncomputable def dB:D->Bool
 | .bl _=>true | _=>false
noncomputable def dI:D->Bool
 | .bl _=>true | .int _=>true | _=>false
noncomputable def dL:D->Bool
 | .lst _=>true | _=>false
noncomputable def dT:D->Bool
 | .tup _=>true | _=>false
def is3 (t:String) (f:D->Bool) (ds:List D) (Γ:G) (Q:RV->G->Prop):Prop:=match ds with
 | [d,.ty t']=>t'=t/\knD d=true/\Q (.fz (.bl (f d))) Γ
 | _=>False
theorem Gk {t:String} {f:D->Bool} {g:Hp->V->Bool} (h:bV X (.builtin "isinstance") (fun xs H Q=>∃ x,xs=[x,.ty t]/\Kn H x/\Q (.bl (g H x)) H))
  (hg:∀ {F H:Hp} {d:D} {v:V},aB F H->g6 K F H d v->knD d=true->g H v=f d):B3 K X (.builtin "isinstance") (fun xs H Q=>∃ x,xs=[x,.ty t]/\Kn H x/\Q (.bl (g H x)) H) (is3 t f):=⟨h,by
 intro B F σ H Γ vs ds Q QQ e r q k;unfold is3 at q;split at q
 ·obtain⟨v,w,rfl,h1,h2⟩:=r.two;obtain⟨rfl,hk,q⟩:=q;cases h2;exact⟨v,rfl,Fm e.sub h1 hk,by rw[hg e.sub h1 hk];exact k _ _ (om e q)⟩
 ·exact q.elim⟩
theorem Nf (T:gk X.K):B3 K X (.builtin "isinstance") (fun xs H Q=>∃ x,xs=[x,.ty "bool"]/\Kn H x/\Q (.bl (isB x)) H) (is3 "bool" dB):=Gk (g:=fun _ v=>isB v) (Ge T) fun s h hk=>by
 unfold knD at hk;split at hk
 ·cases h;rfl
 ·cases h;rfl
 ·cases h;rfl
 ·cases h;rfl
 ·obtain⟨p,vs,rfl,h1,_⟩:=h;rfl
 ·obtain⟨p,vs,rfl,h1,_⟩:=h;rfl
 ·obtain⟨p,rfl,h1⟩:=h;rfl
 ·obtain⟨p,rfl,h1⟩:=h;rfl
 ·cases hk
theorem Nd (T:gk X.K):B3 K X (.builtin "isinstance") (fun xs H Q=>∃ x,xs=[x,.ty "int"]/\Kn H x/\Q (.bl (isI x)) H) (is3 "int" dI):=Gk (g:=fun _ v=>isI v) (Gb T) fun s h hk=>by
 unfold knD at hk;split at hk
 ·cases h;rfl
 ·cases h;rfl
 ·cases h;rfl
 ·cases h;rfl
 ·obtain⟨p,vs,rfl,h1,_⟩:=h;rfl
 ·obtain⟨p,vs,rfl,h1,_⟩:=h;rfl
 ·obtain⟨p,rfl,h1⟩:=h;rfl
 ·obtain⟨p,rfl,h1⟩:=h;rfl
 ·cases hk
theorem JL (T:gk X.K):B3 K X (.builtin "isinstance") (fun xs H Q=>∃ x,xs=[x,.ty "list"]/\Kn H x/\Q (.bl (isL H x)) H) (is3 "list" dL):=Gk (Ga T) fun s h hk=>by
 unfold knD at hk;split at hk
 ·cases h;rfl
 ·cases h;rfl
 ·cases h;rfl
 ·cases h;rfl
 ·obtain⟨p,vs,rfl,h1,_⟩:=h;exact Ca h1
 ·obtain⟨p,vs,rfl,h1,_⟩:=h;exact B_ (s _ _ h1)
 ·obtain⟨p,rfl,h1⟩:=h;exact A5 (s _ _ h1)
 ·obtain⟨p,rfl,h1⟩:=h;exact A5 (s _ _ h1)
 ·cases hk
theorem Na (T:gk X.K):B3 K X (.builtin "isinstance") (fun xs H Q=>∃ x,xs=[x,.ty "tuple"]/\Kn H x/\Q (.bl (isT H x)) H) (is3 "tuple" dT):=Gk (FZ T) fun s h hk=>by
 unfold knD at hk;split at hk
 ·cases h;rfl
 ·cases h;rfl
 ·cases h;rfl
 ·cases h;rfl
 ·obtain⟨p,vs,rfl,h1,_⟩:=h;exact B9 h1
 ·obtain⟨p,vs,rfl,h1,_⟩:=h;exact B8 (s _ _ h1)
 ·obtain⟨p,rfl,h1⟩:=h;exact A4 (s _ _ h1)
 ·obtain⟨p,rfl,h1⟩:=h;exact A4 (s _ _ h1)
 ·cases hk
def DJ (ds:List D) (Γ:G) (Q:RV->G->Prop):Prop:=match ds with
 | [.lst xs]=>∃ bs:List Bool,xs=bs.map .bl/\Q (.fz (.bl (bs.all id))) Γ
 | _=>False
theorem aD.Cv:∀ {bs:List Bool} {vs:List V},aD K F (bs.map D.bl) vs->vs=bs.map V.bl
 | [],_,h=>h
 | n::ns,_,Z=>by
  obtain⟨v,ws,h1,h2,h3⟩:=Z;rw[h1,aD.Cv h3];have:v=.bl n:=h2;rw[this];rfl
theorem Gm (hK:X.K=K) (hc:X.calm=true):B3 K X (.builtin "all") (fun xs H Q=>∃ (p:Addr) (bs:List Bool),xs=[.ref p]/\SqL K H p (bs.map V.bl)/\Q (.bl (bs.all id)) H) DJ:=⟨by subst hK;exact DH hc,by
 intro B F σ H Γ vs ds Q QQ e r q k;unfold DJ at q;split at q
 ·obtain⟨bs,rfl,q⟩:=q;obtain⟨v,rfl,p,ys,rfl,h1,h2⟩:=r.one;exact⟨p,bs,rfl,SqL.of (by rw[h1,h2.Cv]),k _ _ (om e q)⟩
 ·exact q.elim⟩
noncomputable def flD:D->Bool
 | .non=>true | .bl _=>true | .int _=>true | .str _=>true | _=>false
noncomputable def toV:D->V
 | .bl b=>.bl b | .int i=>.int i | .str x=>.str x | _=>.non
theorem JC {d:D} {v:V} (h:g6 K F H d v) (hk:flD d=true):v=toV d/\mT v=true:=by
 unfold flD at hk;split at hk
 ·cases h;exact⟨rfl,rfl⟩
 ·cases h;exact⟨rfl,rfl⟩
 ·cases h;exact⟨rfl,rfl⟩
 ·cases h;exact⟨rfl,rfl⟩
 ·cases hk
theorem JB (s:aB F H):∀ {xs:List D} {vs:List V},aD K F xs vs->xs.all flD=true->vs=xs.map toV/\vs.all mT=true
 | [],_,h,_=>by cases h;exact⟨rfl,rfl⟩
 | x::xs,_,⟨v,ws,h1,h2,h3⟩,hk=>by
  rw[List.all_cons,Bool.and_eq_true] at hk;obtain⟨a,b⟩:=JB s h3 hk.2;obtain⟨c,d⟩:=JC (Rep.b s h2) hk.1;subst h1 a c;refine⟨rfl,?_⟩;rw[List.all_cons,d,b];rfl
def in3 (neg:Bool) (x y:D) (Γ:G) (Q:RV->G->Prop):Prop:=∃ xs,kW y=some xs/\flD x=true/\xs.all flD=true/\Q (.fz (.bl (if neg then !inV (toV x) (xs.map toV) else inV (toV x) (xs.map toV)))) Γ
theorem MI (neg:Bool):lS K (rIn K neg) (in3 neg):=by
 intro B F σ H Γ x y dx dy Q QQ e rx ry q k;obtain⟨xs,hn,f1,f2,q⟩:=q;obtain⟨p,ys,rfl,hs,hl⟩:=vZ e.sub ry hn;obtain⟨a,b⟩:=JB e.sub hl f2;obtain⟨c,d⟩:=JC rx f1;subst a c;exact⟨p,_,rfl,hs,d,b,k _ _ (om e q)⟩
theorem q9 (hK:X.K=K):C3 K X .In (rIn K false) (in3 false):=⟨by subst hK;exact C_,MI false⟩
theorem aD.lookup:∀ {ns:Ls0} {xs:List D} {gs:List (Str×V)} {f:Str} {d:D},gs.map (·.1)=ns->aD K F xs (gs.map (·.2))->(ns.zip xs).lookup f=some d->∃ v,gs.lookup f=some v/\Rep K F d v
 | [],_,[],f,d,_,_,h=>by simp at h
 | n::ns,xs,(m,u)::gs,f,d,h1,h2,h3=>by
  simp only[List.map_cons,List.cons.injEq] at h1;obtain⟨rfl,h1⟩:=h1;cases xs with
  | nil=>simp at h3
  | cons x xs=>
   obtain⟨v,ws,e,r,h2⟩:=h2;simp only[List.map_cons,List.cons.injEq] at e;obtain⟨rfl,rfl⟩:=e;rw[List.zip_cons_cons,List.lookup_cons] at h3;rw[List.lookup_cons];cases q:f == m with
   | true=>rw[q] at h3;cases h3;exact⟨_,rfl,r⟩
   | false=>rw[q] at h3;exact aD.lookup h1 h2 h3
end
structure E3 where
 nx:G->Prop
 rt:RV->G->Prop
 bk:G->Prop:=fun _=>False
 ct:G->Prop:=fun _=>False
abbrev TS3:=E3->G->Prop
structure CG (K:Fg0) (B:Bs) (F:Hp) (D:Ends) (D3:E3):Prop where
 nx:∀ F' σ' H' Γ',aB F F'->En K B F' σ' H' Γ'->D3.nx Γ'->D.nx σ' H'
 rt:∀ F' σ' H' Γ' v r,aB F F'->En K B F' σ' H' Γ'->mE K B F' σ' H' Γ' v r->D3.rt r Γ'->D.rt v H'
 bk:∀ F' σ' H' Γ',aB F F'->En K B F' σ' H' Γ'->D3.bk Γ'->D.bk σ' H'
 ct:∀ F' σ' H' Γ',aB F F'->En K B F' σ' H' Γ'->D3.ct Γ'->D.ct σ' H'
theorem CG.mono {K:Fg0} {B:Bs} {F F1:Hp} {D:Ends} {D3:E3} (h:CG K B F D D3) (s:aB F F1):CG K B F1 D D3:=
 ⟨fun F' σ' H' Γ' s'=>h.nx F' σ' H' Γ' (s.trans s'),fun F' σ' H' Γ' v r s'=>h.rt F' σ' H' Γ' v r (s.trans s'),fun F' σ' H' Γ' s'=>h.bk F' σ' H' Γ' (s.trans s'),fun F' σ' H' Γ' s'=>h.ct F' σ' H' Γ' (s.trans s')⟩
def II (K:Fg0) (t:TS) (t3:TS3):Prop:=∀ (B:Bs) (F:Hp) (σ:L2.St) (H:Hp) (Γ:G) (D:Ends) (D3:E3),En K B F σ H Γ->CG K B F D D3->t3 D3 Γ->t D σ H
structure P3S (K:Fg0) (X:Cx) (st:Stmt) (t:TS) (t3:TS3):Prop where
 pe:PS X st t
 rf:II K t t3
structure lR (K:Fg0) (X:Cx) (st:List Stmt) (t:TS) (t3:TS3):Prop where
 pe:PSs X st t
 rf:II K t t3
section
variable {K:Fg0} {X:Cx} {B:Bs} {F H:Hp} {σ:L2.St} {Γ:G} {pos:Pos}
def bI (Γ:G) (i:Nat):Prop:=match Γ[i]? with
 | some (some (.ln _))=>False
 | some _=>True
 | none=>False
theorem gR {i:Nat} (h:bI Γ i):i < Γ.length:=by
 unfold bI at h;split at h
 ·exact h.elim
 ·rename_i q;exact(gS0 q).1
 ·exact h.elim
theorem aw {α:Type} {l:List α} {i:Nat} {a:α} (h:i < l.length):(l.set i a)[i]?=some a:=by
 rw[List.getElem?_set,if_pos rfl,if_pos h]
theorem En.set (e:En K B F σ H Γ) {i:Nat} (hi:bI Γ i) {v:V} {r:RV} (hr:mE K B F σ H Γ v r) (hn:autoParam (r.pl=true) r0):En K B F (σ.set i (some v)) H (Γ.set i (some r.sl)):=by
 have il:=gR hi;have is:i < σ.length:=by rw[e.len];exact il
 have nl:∀ d,Γ[i]?≠some (some (Sl.ln d)):=fun d q=>by unfold bI at hi;rw[q] at hi;exact hi
 have ne:∀ {j:Nat},j≠i->(Γ.set i (some r.sl))[j]?=Γ[j]?/\(σ.set i (some v))[j]?=σ[j]?:=fun h=>⟨aC (Ne.symm h),aC (Ne.symm h)⟩;have hld:∀ {j x},Hld (Γ.set i (some r.sl)) j x->(j=i/\r=.fr x)\/(j≠i/\Hld Γ j x):=fun {j x} q=>by
  by_cases z:j=i
  ·subst z
   left
   refine⟨rfl,?_⟩;rcases q with q | q <;> rw[aw il] at q <;> cases r <;> first | (cases hn;done) | (cases q;done) | (cases q;rfl)
  ·right
   exact⟨z,by unfold Hld at q ⊢;rw[(ne z).1] at q;exact q⟩
 refine⟨e.sub,by rw[List.length_set,List.length_set];exact e.len,?_,?_,?_,?_,?_,?_,e.keep,e.new,e.rest,e.dom⟩
 ·intro j d q;by_cases z:j=i
  ·subst z;rw[aw il] at q;cases r with
   | fz x=>cases q;exact⟨v,aw is,hr⟩
   | fr x=>cases q
   | two xs ys=>cases hn
   | rws xss=>cases hn
  ·rw[(ne z).1] at q;rw[(ne z).2];exact e.fz j d q
 ·intro j d q;rcases hld q with ⟨rfl,rfl⟩ | ⟨z,q⟩
  ·obtain⟨p,rfl,h1,h2,h3,h4⟩:=hr;exact⟨p,aw is,h1,h2⟩
  ·rw[(ne z).2];exact e.hl j d q
 ·intro j d p q a;rcases hld (.inl q) with ⟨rfl,rfl⟩ | ⟨z,_⟩
  ·obtain⟨p',rfl,h1,h2,h3,h4⟩:=hr;rw[aw is] at a;cases a;exact h3
  ·rw[(ne z).1] at q;rw[(ne z).2] at a;exact e.ow j d p q a
 ·intro j d p q a;rcases hld (.inr q) with ⟨rfl,rfl⟩ | ⟨z,_⟩
  ·rw[aw il] at q;cases q
  ·rw[(ne z).1] at q;rw[(ne z).2] at a;exact e.ln j d p q a
 ·intro j k d d' p q1 q2 a1 a2;rcases hld q1 with ⟨rfl,rfl⟩ | ⟨z1,w1⟩
  ·rcases hld q2 with ⟨rfl,h⟩ | ⟨z2,w2⟩
   ·rfl
   ·obtain⟨p',rfl,h1,h2,h3,h4⟩:=hr;rw[aw is] at a1;cases a1;rw[(ne z2).2] at a2;exact absurd a2 (h4 k _ w2)
  ·rcases hld q2 with ⟨rfl,h⟩ | ⟨z2,w2⟩
   ·subst h;obtain⟨p',rfl,h1,h2,h3,h4⟩:=hr;rw[aw is] at a2;cases a2;rw[(ne z1).2] at a1;exact absurd a1 (h4 j _ w1)
   ·rw[(ne z1).2] at a1;rw[(ne z2).2] at a2;exact e.dis j k d d' p w1 w2 a1 a2
 ·intro j p q;obtain⟨a,d,b⟩:=e.par j p q;have z:j≠i:=fun z=>by subst z;exact nl d b
  rw[(ne z).1,(ne z).2];exact⟨a,d,b⟩
theorem En.forget (e:En K B F σ H Γ) {i:Nat} (hi:bI Γ i):En K B F σ H (Γ.set i none):=by
 have nl:∀ d,Γ[i]?≠some (some (Sl.ln d)):=fun d q=>by unfold bI at hi;rw[q] at hi;exact hi
 have il:=gR hi;have ne:∀ {j:Nat} {s:Sl},(Γ.set i none)[j]?=some (some s)->j≠i/\Γ[j]?=some (some s):=fun {j s} q=>by
  by_cases z:j=i
  ·subst z;rw[aw il] at q;cases q
  ·exact⟨z,by rw[aC (Ne.symm z)] at q;exact q⟩
 have hld:∀ {j x},Hld (Γ.set i none) j x->Hld Γ j x:=fun q=>q.imp (fun q=>(ne q).2) (fun q=>(ne q).2);exact⟨e.sub,by rw[List.length_set];exact e.len,fun j d q=>e.fz j d (ne q).2,fun j d q=>e.hl j d (hld q),fun j d p q=>e.ow j d p (ne q).2,fun j d p q=>e.ln j d p (ne q).2,fun j k d d' p q1 q2=>e.dis j k d d' p (hld q1) (hld q2),
  fun j p q=>by
   obtain⟨a,d,b⟩:=e.par j p q;have z:i≠j:=fun z=>by subst z;exact nl d b
   exact⟨a,d,by rw[aC z];exact b⟩,e.keep,e.new,e.rest,e.dom⟩
def Am (i:Nat) (Γ:G) (Q:RV->G->Prop):Prop:=match Γ[i]? with
 | some (some (.fz d))=>Q (.fz d) Γ
 | some (some (.ow d))=>Q (.fr d) (Γ.set i none)
 | _=>False
theorem Kg (i:Nat):Ref K (cH i) (Am i):=by
 intro B F σ H Γ Q QQ e h k;unfold Am at h;split at h
 ·rename_i d q;obtain⟨v,h1,h2⟩:=e.fz i d q;exact⟨v,h1,k _ _ (i6 e h2 h)⟩
 ·rename_i d q;obtain⟨p,h1,h2,h3⟩:=e.hl i d (.inl q);have hf:bI Γ i:=by unfold bI;rw[q];trivial
  have e':=e.forget hf;refine⟨_,h1,k _ _ ⟨F,_,.fr d,aB.refl F,e',⟨p,rfl,h2,h3,e.ow i d p q h1,fun j x hj=>?_⟩,h⟩⟩;intro a;have hj':j≠i/\Hld Γ j x:=by
   by_cases z:j=i
   ·subst z;rcases hj with hj | hj <;> rw[aw (gR hf)] at hj <;> cases hj
   ·exact⟨z,by unfold Hld at hj ⊢;rw[aC (Ne.symm z)] at hj;exact hj⟩
  exact hj'.1 (e.dis j i x d p hj'.2 (.inl q) a h1)
 ·exact h.elim
theorem tW (i:Nat) {x:Str} {pos:Pos} (hN:autoParam (X.N[i]?=some x) r0) (hv:autoParam (Vis X.env.scope x) v0) (hd:autoParam ((x == ("__debug__":Str))=false) d0)
  (hcd:autoParam ((x == ("__classdict__":Str))=false) d0):P3 K X (.Name x pos) (cH i) (Am i):=⟨xi hN hv hd hcd,Kg i⟩
variable {st:Stmt} {rest:List Stmt} {t u:TS} {t3 u3:TS3} {e:Expr} {te:TE} {e3:TE3}
def Ja (D:E3) (Γ:G):Prop:=D.nx Γ
def LO (t u:TS3) (D:E3) (Γ:G):Prop:=t { D with nx:=u D } Γ
def LS (e3:TE3) (D:E3) (Γ:G):Prop:=e3 Γ D.rt
def JE (e3:TE3) (D:E3) (Γ:G):Prop:=e3 Γ fun _ Γ1=>D.nx Γ1
theorem aR:lR K X [] DV Ja:=⟨BM,fun B F σ H Γ D D3 e k q=>k.nx F σ H Γ (aB.refl F) e q⟩
theorem ai (h1:P3S K X st t t3) (h2:lR K X rest u u3):lR K X (st::rest) (CN t u) (LO t3 u3):=⟨oi h1.pe h2.pe,fun B F σ H Γ D D3 e k q=>
 h1.rf B F σ H Γ _ { D3 with nx:=u3 D3 } e ⟨fun F' σ' H' Γ' s e' q'=>h2.rf B F' σ' H' Γ' _ D3 e' (k.mono s) q',k.rt,k.bk,k.ct⟩ q⟩
theorem ak (h1:P3S K X st t t3):lR K X [st] t t3:=⟨BL h1.pe,h1.rf⟩
theorem av (h:P3 K X e te e3):P3S K X (.Return (some e) pos) (LH te) (LS e3):=⟨Ko h.pe,fun B F σ H Γ D D3 e k q=>
 h.rf B F σ H Γ _ _ e q fun v H' ⟨F',Γ',r,s,e',rv,q'⟩=>k.rt F' σ H' Γ' v r s e' rv q'⟩
theorem fe (h:P3 K X e te e3) (hs:autoParam (swapsWith e none pos.line X.env=pure false) r0):P3S K X (.Expr e pos) (sX te) (JE e3):=⟨xg h.pe hs,fun B F σ H Γ D D3 e k q=>
 h.rf B F σ H Γ _ _ e q fun v H' ⟨F',Γ',r,s,e',rv,q'⟩=>k.nx F' σ H' Γ' s e' q'⟩
def MM (A3:TT3) (t u:TS3) (D:E3) (Γ:G):Prop:=A3 Γ fun c Γ1=>match c with
 | true=>t D Γ1
 | false=>u D Γ1
theorem bh {c:Expr} {a b:List Stmt} {tc:TT} {A3:TT3} (hc:P3T K X c tc A3) (ha:lR K X a t t3) (hb:lR K X b u u3):P3S K X (.If c a b pos) (J2 tc t u) (MM A3 t3 u3):=⟨IZ hc.pe ha.pe hb.pe,fun B F σ H Γ D D3 e k q=>
 hc.rf B F σ H Γ _ _ e q fun c H' Z=>by
  obtain⟨F',Γ',s,e',q'⟩:=Z;cases c with
  | true=>exact Dq (ha.rf B F' σ H' Γ' D D3 e' (k.mono s) q')
  | false=>exact Dr (hb.rf B F' σ H' Γ' D D3 e' (k.mono s) q')⟩
theorem cO:P3S K X st DW (fun _ _=>False):=⟨Ew,fun B F σ H Γ D D3 e k q=>q⟩
def G0 (i:Nat) (e3:TE3) (D:E3) (Γ:G):Prop:=e3 Γ fun r Γ1=>bI Γ1 i/\D.nx (Γ1.set i (some r.sl))
theorem BK {i:Nat} (h:Ref K te e3):II K (hU te (i9 i)) (G0 i e3):=fun B F σ H Γ D D3 e k q=>
 h B F σ H Γ _ _ e q fun v H' Z=>by
  obtain⟨F',Γ',r,s,e',rv,hf,q'⟩:=Z;obtain⟨F2,r2,s2,e2,rv2,h2,hn⟩:=e'.norm rv;exact k.nx F2 _ H' _ (s.trans s2) (by have:=e2.set hf rv2 hn;rw[h2] at this;exact this) q'
theorem aN {i:Nat} {x:Str} {pos':Pos} (hN:X.N.Nodup) (hi:X.N[i]?=some x) (hx:Loc X.env.scope x) (he:P3 K X e te e3) (hs:autoParam (swapsWith e (some (.Name x pos')) pos.line X.env=pure false) r0) (hf:autoParam (X.fn x=true\/X.env.scope.names.lookup x=some .local) k0) :
  P3S K X (.Assign [.Name x pos'] e pos) (hU te (i9 i)) (G0 i e3):=⟨Km hN hi hx he.pe hs hf,BK he.rf⟩
def EN (i j:Nat) (t3:TA3) (D:E3) (Γ:G):Prop:=t3 Γ fun ds Γ1=>∃ d d',ds=[d,d']/\bI Γ1 i/\bI (Γ1.set i (some (.fz d))) j/\D.nx ((Γ1.set i (some (.fz d))).set j (some (.fz d')))
theorem Kc {i j:Nat} {x y:Str} {a b:Expr} {ta:TA} {a3:TA3} {px py pt:Pos} {kt k2 pt2} (hc:X.calm=true) (hN:X.N.Nodup) (hi:X.N[i]?=some x) (hj:X.N[j]?=some y) (hij:i≠j)
  (hx:X.env.scope.names.lookup x=some .local) (hy:X.env.scope.names.lookup y=some .local) (ha:P3A K X [a,b] ta a3)
  (hw:swappedStores [.Tuple [.Name x px,.Name y py] kt pt] (.Tuple [a,b] k2 pt2) X.env=pure (some [x,y]))
  (hs:autoParam (swapsWithSole [.Tuple [.Name x px,.Name y py] kt pt] (.Tuple [a,b] k2 pt2) pos.line X.env=pure false) r0) :
  P3S K X (.Assign [.Tuple [.Name x px,.Name y py] kt pt] (.Tuple [a,b] k2 pt2) pos) (JY i j ta) (EN i j a3):=⟨Eu hc hN hi hj hij hx hy ha.pe hw hs,fun B F σ H Γ D D3 e k q=>
 ha.rf B F σ H Γ _ _ e q fun vs H' Z=>by
  obtain⟨F',Γ',ds,s,e',rv,d,d',h1,h2,h3,q'⟩:=Z;subst h1;obtain⟨v,ws,rfl,r1,w,ws',rfl,r2,r3⟩:=rv;cases r3;refine⟨v,w,rfl,k.nx F' _ H' _ s ?_ q'⟩;exact(e'.set (r:=.fz d) h2 r1).set (r:=.fz d') h3 r2⟩
noncomputable def gives (Γ:G):List Nat->List D->Option G
 | [],[]=>some Γ
 | i::is,d::ds=>gives (Γ.set i (some (.fz d))) is ds
 | _,_=>none
def frees (Γ:G):List Nat->List D->Prop
 | [],_=>True
 | i::is,d::ds=>bI Γ i/\frees (Γ.set i (some (.fz d))) is ds
 | _,_=>True
def qo:List Nat->TGs
 | []=>MX
 | i::is=>Jy (i9 i) (qo is)
theorem ux {is:List Nat}:∀ {Γ:G} {σ:L2.St} {vs:List V} {ds:List D} {Γ':G} {QQ:L2.St->Hp->Prop},En K B F σ H Γ->aD K F ds vs->gives Γ is ds=some Γ'->frees Γ is ds->(∀ σ',En K B F σ' H Γ'->QQ σ' H)->qo is vs σ H QQ:=by
 induction is with
 | nil=>
  intro Γ σ vs ds Γ' QQ e r g f k;cases ds with
  | nil=>cases g;cases r;exact⟨rfl,k σ e⟩
  | cons d ds=>cases g
 | cons i is ih=>
  intro Γ σ vs ds Γ' QQ e r g f k;cases ds with
  | nil=>cases g
  | cons d ds=>
   obtain⟨v,ws,rfl,r1,r2⟩:=r;exact⟨v,ws,rfl,ih (e.set (r:=.fz d) f.1 r1) r2 g f.2 k⟩
def IS (is:List Nat) (e3:TE3) (D:E3) (Γ:G):Prop:=e3 Γ fun r Γ1=>∃ ds Γ',r.d=.tup ds/\gives Γ1 is ds=some Γ'/\frees Γ1 is ds/\D.nx Γ'
theorem wc {is:List Nat}:∀ {Γ Γ':G} {ds:List D},gives Γ is ds=some Γ'->ds.length=is.length:=by
 induction is with
 | nil=>intro Γ Γ' ds h;cases ds with | nil=>rfl | cons=>cases h
 | cons i is ih=>intro Γ Γ' ds h;cases ds with | nil=>cases h | cons d ds=>simp [ih h]
theorem n_ {es:List Expr} {kt:Nat} {pt:Pos} {is:List Nat} (hK:X.K=K) (he:P3 K X e te e3) (hg:PGs X es (qo is)) (hc:X.calm=true) (hn:autoParam ((assignEach es X.env).length=is.length) r0) (hst:autoParam ((assignEach es X.env).findIdx? (·.1)=none) r0)
  (hs:autoParam (swapsWithSole [.Tuple es kt pt] e pos.line X.env=pure false) r0) (hw:autoParam (swappedStores [.Tuple es kt pt] e X.env=pure none) r0) (h1:autoParam ((assignEach [.Tuple es kt pt] X.env).map (·.2)=[assign (.Tuple es kt pt) X.env]) r0) :
  P3S K X (.Assign [.Tuple es kt pt] e pos) (hU te (Ld K is.length (qo is))) (IS is e3):=⟨by subst hK;exact Ax he.pe (ED hc hg hn hst) hs hw h1,fun B F σ H Γ D D3 e k q=>
 he.rf B F σ H Γ _ _ e q fun v H' Z=>by
  obtain⟨F',Γ',r,s,e',rv,ds,Γ2,h1,h2,h3,q'⟩:=Z;obtain⟨F2,s2,e2,r2⟩:=e'.frozen rv;rw[h1] at r2;obtain⟨p,vs,rfl,h4,h5⟩:=r2;refine⟨p,vs,rfl,.inl (.inl (e2.sub _ _ h4)),by rw[h5.length,wc h2],ux e2 h5 h2 h3 fun σ' e3=>k.nx F2 σ' _ Γ2 (s.trans s2) e3 q'⟩⟩
noncomputable def putD (Γ:G) (i:Nat) (d:D):G:=match Γ[i]? with
 | some (some (.ow _))=>Γ.set i (some (.ow d))
 | some (some (.ln _))=>Γ.set i (some (.ln d))
 | _=>Γ
noncomputable def c_ (Γ:G) (i:Nat):Option (List D):=match Γ[i]? with
 | some (some (.ow (.lst xs)))=>some xs
 | some (some (.ln (.lst xs)))=>some xs
 | _=>none
theorem v8 {i:Nat} {xs:List D} (h:c_ Γ i=some xs):Hld Γ i (.lst xs):=by
 unfold c_ at h;split at h
 ·cases h;rename_i q;exact .inl q
 ·cases h;rename_i q;exact .inr q
 ·cases h
theorem En.Mx (e:En K B F σ H Γ) {i:Nat} {d0 d1:D} (hh:Hld Γ i d0) {p:Addr} (hp:σ[i]?=some (some (V.ref p))) {o1:HO} (r:Own K F (upd H p o1) p d1):En K B F σ (upd H p o1) (putD Γ i d1):=by
 obtain⟨p0,a0,b0,c0⟩:=e.hl i _ hh;rw[hp] at a0;cases a0;obtain⟨o,ho⟩:=c0.some;have hput:(Γ[i]?=some (some (Sl.ow d0))/\putD Γ i d1=Γ.set i (some (.ow d1)))\/(Γ[i]?=some (some (Sl.ln d0))/\putD Γ i d1=Γ.set i (some (.ln d1))):=by
  rcases hh with q | q
  ·exact .inl ⟨q,by unfold putD;rw[q]⟩
  ·exact .inr ⟨q,by unfold putD;rw[q]⟩
 have il:i < Γ.length:=by rcases hput with ⟨q,_⟩ | ⟨q,_⟩ <;> exact(gS0 q).1
 have other:∀ {j:Nat},j≠i->(putD Γ i d1)[j]?=Γ[j]?:=fun z=>by
  rcases hput with ⟨_,q⟩ | ⟨_,q⟩ <;> rw[q,aC (Ne.symm z)]
 have same:∀ {s:Sl},(putD Γ i d1)[i]?=some (some s)->(s=.ow d1/\Γ[i]?=some (some (Sl.ow d0)))\/(s=.ln d1/\Γ[i]?=some (some (Sl.ln d0))):=fun {s} q=>by
  rcases hput with ⟨a,b⟩ | ⟨a,b⟩
  ·rw[b,aw il] at q;cases q;exact .inl ⟨rfl,a⟩
  ·rw[b,aw il] at q;cases q;exact .inr ⟨rfl,a⟩
 have hld:∀ {j x},Hld (putD Γ i d1) j x->(j=i/\x=d1)\/(j≠i/\Hld Γ j x):=fun {j x} q=>by
  by_cases z:j=i
  ·subst z
   left
   rcases q with q | q <;> rcases same q with ⟨h,_⟩ | ⟨h,_⟩ <;> cases h <;> exact⟨rfl,rfl⟩
  ·right;exact⟨z,by unfold Hld at q ⊢;rw[other z] at q;exact q⟩
 have hld':∀ {j x},Hld (putD Γ i d1) j x->∃ y,Hld Γ j y:=fun q=>by
  rcases hld q with ⟨rfl,_⟩ | ⟨_,q⟩
  ·exact⟨_,hh⟩
  ·exact⟨_,q⟩
 refine⟨?_,?_,?_,?_,?_,?_,?_,?_,e.keep,e.new,?_,?_⟩
 ·intro b u q;have z:b≠p:=fun z=>by subst z;rw[b0] at q;cases q
  rw[ah z];exact e.sub b u q
 ·rcases hput with ⟨_,q⟩ | ⟨_,q⟩ <;> rw[q,List.length_set] <;> exact e.len
 ·intro j d q;by_cases z:j=i
  ·subst z;rcases same q with ⟨h,_⟩ | ⟨h,_⟩ <;> cases h
  ·rw[other z] at q;exact e.fz j d q
 ·intro j d q;rcases hld q with ⟨rfl,rfl⟩ | ⟨z,q⟩
  ·exact⟨p,hp,b0,r⟩
  ·obtain⟨p',a,b,c⟩:=e.hl j d q;have ne:p'≠p:=fun y=>z (e.dis j i _ _ p q hh (y ▸ a) hp);exact⟨p',a,b,c.mono (aB.refl F) (ah ne)⟩
 ·intro j d p' q a;by_cases z:j=i
  ·subst z;rcases same q with ⟨h,g⟩ | ⟨h,g⟩
   ·exact e.ow j _ p' g a
   ·cases h
  ·rw[other z] at q;exact e.ow j d p' q a
 ·intro j d p' q a;by_cases z:j=i
  ·subst z;rcases same q with ⟨h,g⟩ | ⟨h,g⟩
   ·cases h
   ·exact e.ln j _ p' g a
  ·rw[other z] at q;exact e.ln j d p' q a
 ·intro j k d d' p' q1 q2;obtain⟨y1,h1⟩:=hld' q1;obtain⟨y2,h2⟩:=hld' q2;exact e.dis j k y1 y2 p' h1 h2
 ·intro j p' q;obtain⟨a,d,b⟩:=e.par j p' q;refine⟨a,?_⟩;by_cases z:j=i
  ·subst z;rcases hput with ⟨c,_⟩ | ⟨_,c⟩
   ·rw[b] at c;cases c
   ·exact⟨_,by rw[c,aw il]⟩
  ·exact⟨d,by rw[other z];exact b⟩
 ·intro b u q n;have z:b≠p:=fun z=>by
   subst z;rcases hh with g | g
   ·rw[e.ow i _ _ g hp] at q;cases q
   ·exact n i (e.ln i _ _ g hp)
  rw[ah z];exact e.rest b u q n
 ·intro b q;by_cases z:b=p
  ·subst z;rw[ar] at q;cases q
  ·rw[ah z] at q;exact e.dom b q
theorem En.mut (e:En K B F σ H Γ) {i:Nat} {xs xs':List D} (h:c_ Γ i=some xs) {p:Addr} (hp:σ[i]?=some (some (V.ref p))) {vs':List V} (r:aD K F xs' vs'):En K B F σ (upd H p (.lst vs')) (putD Γ i (.lst xs')):=
 e.Mx (v8 h) hp ⟨vs',ar,r⟩
end
section
variable {K:Fg0} {X:Cx} {B:Bs} {F H:Hp} {σ:L2.St} {Γ:G} {pos:Pos}
noncomputable def newD:On->G->Nat->Option D
 | some j'::ls,s::cs,j=>if j'=j then (match s with
   | some (.ln d)=>some d
   | _=>newD ls cs j) else newD ls cs j
 | none::ls,_::cs,j=>newD ls cs j
 | _,_,_=>none
theorem gp:∀ {ls:On} {cs:G} {j:Nat} {d:D},newD ls cs j=some d->∃ k:Nat,ls[k]?=some (some j)/\cs[k]?=some (some (Sl.ln d))
 | some j'::ls,s::cs,j,d,h=>by
  unfold newD at h;split at h
  ·rename_i e;subst e;split at h
   ·cases h;exact⟨0,rfl,rfl⟩
   ·obtain⟨k,a,b⟩:=gp h;exact⟨k + 1,by simpa using a,by simpa using b⟩
  ·obtain⟨k,a,b⟩:=gp h;exact⟨k + 1,by simpa using a,by simpa using b⟩
 | none::ls,_::cs,j,d,h=>by
  unfold newD at h;obtain⟨k,a,b⟩:=gp h;exact⟨k + 1,by simpa using a,by simpa using b⟩
 | [],_,_,_,h=>by unfold newD at h;cases h
 | some _::_,[],_,_,h=>by unfold newD at h;cases h
 | none::_,[],_,_,h=>by unfold newD at h;cases h
theorem sx:∀ {ls:On} {cs:G} {j k:Nat} {d:D},ls[k]?=some (some j)->cs[k]?=some (some (Sl.ln d))->∃ d',newD ls cs j=some d'
 | [],_,_,_,_,h,_=>by simp at h
 | _::_,[],_,_,_,_,h=>by simp at h
 | some j'::ls,s::cs,j,0,d,h,h'=>by
  simp at h h';subst h h';exact⟨d,by unfold newD;rw[if_pos rfl]⟩
 | none::ls,s::cs,j,0,d,h,h'=>by simp at h
 | some j'::ls,s::cs,j,k + 1,d,h,h'=>by
  unfold newD;split
  ·split
   ·exact⟨_,rfl⟩
   ·exact sx (k:=k) (by simpa using h) (by simpa using h')
  ·exact sx (k:=k) (by simpa using h) (by simpa using h')
 | none::ls,s::cs,j,k + 1,d,h,h'=>by
  unfold newD;exact sx (k:=k) (by simpa using h) (by simpa using h')
noncomputable def ka (n:Option D):Option Sl->Option Sl
 | some (.ow d)=>some (.ow (n.getD d))
 | some (.ln d)=>some (.ln (n.getD d))
 | s=>s
noncomputable def bJ (ls:On) (Γ cs:G):G:=Γ.mapIdx fun j s=>ka (newD ls cs j) s
theorem dN {ls:On} {cs:G} {j:Nat}:(bJ ls Γ cs)[j]?=(Γ[j]?).map (ka (newD ls cs j)):=by
 unfold bJ;rw[List.getElem?_mapIdx]
theorem En.back {F1 H1:Hp} {own':List (Nat×Addr)} {σc:L2.St} {Γc:G} {ls:On} (e:En K B F1 σ H1 Γ) (e2:En K ⟨F1,H1,own'⟩ F σc H Γc)
  (h1:∀ k p,(k,p)∈own'->∃ j d,ls[k]?=some (some j)/\Hld Γ j d/\σ[j]?=some (some (V.ref p))):En K B F σ H (bJ ls Γ Γc):=by
 have gfz:∀ {j d},(bJ ls Γ Γc)[j]?=some (some (Sl.fz d))->Γ[j]?=some (some (Sl.fz d)):=fun {j d} q=>by
  rw[dN] at q;cases w:Γ[j]? with
  | none=>rw[w] at q;cases q
  | some s=>
   rw[w] at q;cases s with
   | none=>cases q
   | some s=>cases s <;> cases q;rfl
 have gow:∀ {j d},(bJ ls Γ Γc)[j]?=some (some (Sl.ow d))->∃ d0,Γ[j]?=some (some (Sl.ow d0))/\d=(newD ls Γc j).getD d0:=fun {j d} q=>by
  rw[dN] at q;cases w:Γ[j]? with
  | none=>rw[w] at q;cases q
  | some s=>
   rw[w] at q;cases s with
   | none=>cases q
   | some s=>cases s <;> cases q;exact⟨_,rfl,rfl⟩
 have gln:∀ {j d},(bJ ls Γ Γc)[j]?=some (some (Sl.ln d))->∃ d0,Γ[j]?=some (some (Sl.ln d0))/\d=(newD ls Γc j).getD d0:=fun {j d} q=>by
  rw[dN] at q;cases w:Γ[j]? with
  | none=>rw[w] at q;cases q
  | some s=>
   rw[w] at q;cases s with
   | none=>cases q
   | some s=>cases s <;> cases q;exact⟨_,rfl,rfl⟩
 have gh:∀ {j d},Hld (bJ ls Γ Γc) j d->∃ d0,Hld Γ j d0/\d=(newD ls Γc j).getD d0:=fun {j d} q=>by
  rcases q with q | q
  ·obtain⟨d0,a,b⟩:=gow q;exact⟨d0,.inl a,b⟩
  ·obtain⟨d0,a,b⟩:=gln q;exact⟨d0,.inr a,b⟩
 refine⟨e2.sub,by unfold bJ;rw[List.length_mapIdx];exact e.len,?_,?_,?_,?_,?_,?_,e.keep.trans e2.keep,?_,?_,?_⟩
 ·intro j d q;obtain⟨v,a,b⟩:=e.fz j d (gfz q);exact⟨v,a,b.mono e2.keep⟩
 ·intro j d q;obtain⟨d0,w0,rfl⟩:=gh q;obtain⟨p,a,b,c⟩:=e.hl j d0 w0;obtain⟨o,ho⟩:=c.some;have fp:F p=none:=by
   cases w:F p with
   | none=>rfl
   | some u=>
    rcases e2.new p u w with z | z
    ·rw[show F1 p=some u from z] at b;cases b
    ·rw[show H1 p=none from z] at ho;cases ho
  refine⟨p,a,fp,?_⟩;cases w:newD ls Γc j with
  | some d'=>
   obtain⟨k,x,y⟩:=gp w;obtain⟨p',a',b',c'⟩:=e2.hl k d' (.inr y);obtain⟨j2,d2,x2,_,a2⟩:=h1 k p' (e2.ln k d' p' y a');rw[x] at x2;cases x2;rw[a] at a2;cases a2;exact c'
  | none=>
   have hk:∀ k,(k,p)∉own':=fun k hk=>by
    obtain⟨j2,d2,x2,q2,a2⟩:=h1 k p hk;obtain⟨_,d3,y⟩:=e2.par k p hk;have:j2=j:=e.dis j2 j d2 d0 p q2 w0 a2 a;subst this;obtain⟨d4,z⟩:=sx x2 y;rw[w] at z;cases z
   have hp:H p=H1 p:=by rw[ho];exact e2.rest p o ho hk
   exact c.mono e2.keep hp
 ·intro j d p q a;obtain⟨d0,q,_⟩:=gow q;exact e.ow j d0 p q a
 ·intro j d p q a;obtain⟨d0,q,_⟩:=gln q;exact e.ln j d0 p q a
 ·intro i j d d' p q1 q2;obtain⟨d0,q1,_⟩:=gh q1;obtain⟨d1,q2,_⟩:=gh q2;exact e.dis i j d0 d1 p q1 q2
 ·intro j p q;obtain⟨a,d,b⟩:=e.par j p q;exact⟨a,_,by rw[dN,b];rfl⟩
 ·intro b o q;rcases e2.new b o q with z | z
  ·exact e.new b o z
  ·exact .inr (e.dom b z)
 ·intro b o q n;have q1:=e.rest b o q n;refine e2.rest b o q1 fun k hk=>?_;obtain⟨j,d,x,y,a⟩:=h1 k b hk;rcases y with y | y
  ·rw[e.ow j d b y a] at q;cases q
  ·exact n j (e.ln j d b y a)
 ·intro b q;exact e.dom b (e2.dom b q)
structure ItR (K:Fg0) (F:Hp) (J:It) (xs:List D):Prop where
 go:∀ i H',aB F H'->i < xs.length->J.go i H'
 stop:∀ i H',aB F H'->i=xs.length->J.stop i H'
 yld:∀ i H' x H'' d,aB F H'->xs[i]?=some d->J.yld i H' x H''->(H''=H'/\Rep K F d x)\/∃ t vs ds,H' t=none/\H''=upd H' t (.tup vs)/\x=.ref t/\aD K F ds vs/\d=.tup ds
abbrev TI3:=G->(List D->G->Prop)->Prop
def GD (K:Fg0) (t:TI) (i3:TI3):Prop:=∀ (B:Bs) (F:Hp) (σ:L2.St) (H:Hp) (Γ:G) (Q:List D->G->Prop) (R:It->Hp->Prop),En K B F σ H Γ->i3 Γ Q->(∀ J H1 F1 Γ1 xs,aB F F1->En K B F1 σ H1 Γ1->ItR K F1 J xs->Q xs Γ1->R J H1)->t σ H R
structure P3I (K:Fg0) (X:Cx) (tg iter:Expr) (t:TI) (i3:TI3):Prop where
 pe:PI X tg iter t
 rf:GD K t i3
abbrev TG3:=D->G->(G->Prop)->Prop
def DL (K:Fg0) (g:TG) (g3:TG3):Prop:=∀ (B:Bs) (F:Hp) (σ:L2.St) (H:Hp) (Γ:G) (v:V) (d:D) (Q:G->Prop) (QQ:L2.St->Hp->Prop),En K B F σ H Γ->Rep K F d v->g3 d Γ Q->(∀ σ' Γ',En K B F σ' H Γ'->Q Γ'->QQ σ' H)->g v σ H QQ
structure P3G (K:Fg0) (X:Cx) (tg:Expr) (g:TG) (g3:TG3):Prop where
 pe:PG X tg g
 rf:DL K g g3
def tgN (i:Nat) (d:D) (Γ:G) (Q:G->Prop):Prop:=bI Γ i/\Q (Γ.set i (some (.fz d)))
def tgT (is:List Nat) (d:D) (Γ:G) (Q:G->Prop):Prop:=∃ ds Γ',d=.tup ds/\gives Γ is ds=some Γ'/\frees Γ is ds/\Q Γ'
theorem aQ {i:Nat} {x:Str} (hN:X.N.Nodup) (hi:X.N[i]?=some x) (hx:Loc X.env.scope x) (hf:autoParam (X.fn x=true\/X.env.scope.names.lookup x=some .local) k0):P3G K X (.Name x pos) (i9 i) (tgN i):=
 ⟨aP hN hi hx hf,fun B F σ H Γ v d Q QQ e r q k=>k _ _ (e.set (r:=.fz d) q.1 r) q.2⟩
theorem fL {es:List Expr} {kt:Nat} {is:List Nat} (hK:X.K=K) (hg:PGs X es (qo is)) (hc:X.calm=true) (hn:autoParam ((assignEach es X.env).length=is.length) r0) (hst:autoParam ((assignEach es X.env).findIdx? (·.1)=none) r0) :
  P3G K X (.Tuple es kt pos) (Ld K is.length (qo is)) (tgT is):=⟨by subst hK;exact ED hc hg hn hst,fun B F σ H Γ v d Q QQ e r q k=>by
 obtain⟨ds,Γ',rfl,h1,h2,q⟩:=q;obtain⟨p,vs,rfl,h4,h5⟩:=r;exact⟨p,vs,rfl,.inl (.inl (e.sub _ _ h4)),by rw[h5.length,wc h1],ux e h5 h1 h2 fun σ' e'=>k σ' Γ' e' q⟩⟩
theorem ItR.turn {J:It} {xs:List D} (R:ItR K F J xs) {F' H' H'':Hp} (s:aB F F') (e:En K B F' σ H' Γ) {i:Nat} {d:D} {x:V} (hd:xs[i]?=some d) (y:J.yld i H' x H''):∃ F2,aB F' F2/\En K B F2 σ H'' Γ/\Rep K F2 d x:=by
 rcases R.yld i H' x H'' d (s.trans e.sub) hd y with ⟨rfl,r⟩ | ⟨t,vs,ds,h1,rfl,rfl,r,rfl⟩
 ·exact⟨F',aB.refl F',e,r.mono s⟩
 ·exact⟨upd F' t (.tup vs),aY (e.nof h1),(e.alloc h1 _).freeze (e.nof h1) ar (e.dom _ h1) (e.uc h1),t,vs,rfl,ar,r.mono (s.trans (aY (e.nof h1)))⟩
def Lg (i3:TI3) (g3:TG3) (b3:TS3) (D:E3) (Γ:G):Prop:=i3 Γ fun xs Γ1=>∃ Iv:Nat->G->Prop,Iv 0 Γ1/\(∀ k d Γ,xs[k]?=some d->Iv k Γ->g3 d Γ fun Γ'=>b3 { D with nx:=Iv (k + 1),ct:=Iv (k + 1),bk:=D.nx } Γ')/\∀ Γ,Iv xs.length Γ->D.nx Γ
theorem fG {tg iter:Expr} {body:List Stmt} {wi:TI} {i3:TI3} {g:TG} {g3:TG3} {tb:TS} {b3:TS3} (hp:PassesOwn (model X.prog X.w) X.A X.env X.xe) (hc:X.calm=true) (hi:P3I K X tg iter wi i3) (hg:P3G K X tg g g3) (hb:lR K X body tb b3) (hs:autoParam (∀ x,foldedSetIterable iter X.env x=pure x) j0) :
  P3S K X (.For tg iter body [] pos) (J3 wi g tb) (Lg i3 g3 b3):=⟨Ex hp hc hi.pe hg.pe hb.pe hs,fun B F σ H Γ D D3 e k q=>by
 refine hi.rf B F σ H Γ _ _ e q fun J H1 F1 Γ1 xs s1 e1 R Z=>?_;obtain⟨Iv,i0,it,ie⟩:=Z;refine⟨fun i m σ H=>m=xs.length - i/\i<=xs.length/\∃ F' Γ',aB F1 F'/\En K B F' σ H Γ'/\Iv i Γ',⟨_,rfl,Nat.zero_le _,F1,Γ1,aB.refl _,e1,i0⟩,?_⟩;rintro i m σ2 H2 ⟨rfl,hi',F2,Γ2,s2,e2,iv⟩;by_cases lt:i < xs.length
 ·refine .inr ⟨R.go i H2 (s2.trans e2.sub) lt,fun σ' H'=>∃ F' Γ',aB F1 F'/\En K B F' σ' H' Γ'/\Iv (i + 1) Γ',fun σ' H' ⟨F',Γ',a,b,c⟩=>⟨xs.length - (i + 1),by omega,rfl,lt,F',Γ',a,b,c⟩,fun x H3 y=>?_⟩;have hd:xs[i]?=some xs[i]:=gE0 lt;obtain⟨F3,s3,e3,r3⟩:=R.turn s2 e2 hd y;refine hg.rf B F3 σ2 H3 Γ2 x _ _ _ e3 r3 (it i _ Γ2 hd iv) fun σ' Γ' e4 q4=>?_;have s4:=s2.trans s3;refine hb.rf B F3 σ' H3 Γ' _ { D3 with nx:=Iv (i + 1),ct:=Iv (i + 1),bk:=D3.nx } e4 ⟨fun F' σ' H' Γ' s e q=>⟨F',Γ',s4.trans s,e,q⟩,fun F' σ' H' Γ' v r s e rv q=>k.rt F' σ' H' Γ' v r ((s1.trans s4).trans s) e rv q,fun F' σ' H' Γ' s e q=>k.nx F' σ' H' Γ' ((s1.trans s4).trans s) e q,fun F' σ' H' Γ' s e q=>⟨F',Γ',s4.trans s,e,q⟩⟩ q4
 ·have z:i=xs.length:=by omega
  subst z;exact .inl ⟨R.stop _ H2 (s2.trans e2.sub) rfl,k.nx F2 σ2 H2 Γ2 (s1.trans s2) e2 (ie Γ2 iv)⟩⟩
def iL3 (a3:TE3) (Γ:G) (Q:List D->G->Prop):Prop:=a3 Γ fun r Γ1=>∃ xs,r.d=.lst xs/\Q xs Γ1
theorem cf {tg l:Expr} {tl:TE} {l3:TE3} (hK:X.K=K) (h:P3 K X l tl l3):P3I K X tg l (Ju K tl) (iL3 l3):=⟨by subst hK;exact Ho h.pe,fun B F σ H Γ Q R e q k=>
 h.rf B F σ H Γ _ _ e q fun v H' Z=>by
  obtain⟨F',Γ',r,s,e',rv,xs,hx,q'⟩:=Z;obtain⟨F2,s2,e2,r2⟩:=e'.frozen rv;rw[hx] at r2;obtain⟨p,vs,rfl,h1,h2⟩:=r2;refine⟨p,rfl,⟨vs,SqL.of (e2.sub _ _ h1)⟩,k _ H' F2 Γ' xs (s.trans s2) e2 ⟨fun i H'' sm lt=>?_,fun i H'' sm ei=>?_,fun i H'' x H3 d sm hd y=>?_⟩ q'⟩
  ·rw[<- h2.length] at lt;exact⟨vs,vs[i],SqL.of (sm _ _ h1),by simp [lt]⟩
  ·exact⟨vs,SqL.of (sm _ _ h1),by rw[h2.length];omega⟩
  ·obtain⟨e1,y⟩:=y;obtain⟨d',hd',r⟩:=h2.Ie (y vs (SqL.of (sm _ _ h1)));rw[hd] at hd';cases hd';exact .inl ⟨e1,r⟩⟩
noncomputable def rng (lo:Int) (n:Nat):List D:=(List.range n).map fun (k:Nat)=>D.int (lo + (k:Int))
theorem LQ {lo:Int} {n:Nat}:ItR K F (Itr lo n) (rng lo n):=by
 have hl:(rng lo n).length=n:=by simp [rng]
 refine⟨fun i H' _ lt=>by rw[hl] at lt;exact lt,fun i H' _ e=>by rw[hl] at e;exact Nat.le_of_eq e.symm,fun i H' x H'' d _ hd y=>?_⟩;obtain⟨e1,e2⟩:=y;subst e1 e2;refine .inl ⟨rfl,?_⟩;have hi:i < n:=by have:=(gS0 hd).1;rw[hl] at this;exact this
 have:(rng lo n)[i]?=some (.int (lo + i)):=by unfold rng;rw[List.getElem?_map,List.getElem?_range hi];rfl
 rw[this] at hd;cases hd
 rfl
def iR1 (t3:TA3) (Γ:G) (Q:List D->G->Prop):Prop:=t3 Γ fun ds Γ1=>∃ j:Int,ds=[.int j]/\-(2 ^ 62)<=j/\j < 2 ^ 62/\Q (rng 0 j.toNat) Γ1
theorem bc {tg a:Expr} {ta:TA} {a3:TA3} {p pos:Pos} (hg:Gl X "range") (hm:X.mg "range"=none) (ha:P3A K X [a] ta a3) (hs:autoParam (starEach [a] X.env=[(false,eval a X.env)]) r0):P3I K X tg (.Call (.Name "range" p) [a] [] pos) (Jt ta) (iR1 a3):=⟨C4 hg hm ha.pe hs,fun B F σ H Γ Q R e q k=>
 ha.rf B F σ H Γ _ _ e q fun vs H' Z=>by
  obtain⟨F',Γ',ds,s,e',rv,j,h1,h2,h3,q'⟩:=Z;subst h1;obtain⟨v,ws,rfl,r1,r2⟩:=rv;cases r1;cases r2;exact⟨j,rfl,h2,h3,k _ H' F' Γ' _ s e' LQ q'⟩⟩
noncomputable def g_ (xs ys:List D):List D:=(xs.zip ys).map fun p=>.tup [p.1,p.2]
def iZ3 (t3:TA3) (Γ:G) (Q:List D->G->Prop):Prop:=t3 Γ fun ds Γ1=>∃ xs ys,ds=[.lst xs,.lst ys]/\Q (g_ xs ys) Γ1
theorem gv {xs ys:List D} {i:Nat} {d:D} (h:(g_ xs ys)[i]?=some d):∃ x y,xs[i]?=some x/\ys[i]?=some y/\d=.tup [x,y]:=by
 unfold g_ at h;rw[List.getElem?_map] at h;cases q:(xs.zip ys)[i]? with
 | none=>rw[q] at h;cases h
 | some p=>
  rw[q] at h;cases h;rw[List.getElem?_zip_eq_some] at q;exact⟨_,_,q.1,q.2,rfl⟩
theorem um {a b:Expr} {ta:TA} {a3:TA3} {es:List Expr} {kt:Nat} {tp p pos:Pos} (hg:Gl X "zip") (hm:X.mg "zip"=none) (ha:P3A K X [a,b] ta a3) (hs:autoParam (starEach [a,b] X.env=[(false,eval a X.env),(false,eval b X.env)]) r0) (hs2:autoParam (starEach [b] X.env=[(false,eval b X.env)]) r0) :
  P3I K X (.Tuple es kt tp) (.Call (.Name "zip" p) [a,b] [] pos) (MO ta) (iZ3 a3):=⟨Ks hg hm ha.pe hs hs2,fun B F σ H Γ Q R e q k=>
 ha.rf B F σ H Γ _ _ e q fun vs H' Z=>by
  obtain⟨F',Γ',ds,s,e',rv,xs,ys,h1,q'⟩:=Z;subst h1;obtain⟨v,ws,rfl,⟨p1,vs1,rfl,g1,r1⟩,w,ws',rfl,⟨p2,vs2,rfl,g2,r2⟩,r3⟩:=rv;cases r3;refine⟨p1,p2,vs1,vs2,rfl,e'.sub _ _ g1,e'.sub _ _ g2,k _ H' F' Γ' _ s e' ⟨fun i H'' sm lt=>?_,fun i H'' sm ei=>?_,fun i H'' x H3 d sm hd y=>?_⟩ q'⟩
  ·obtain⟨x,y,hx,hy,_⟩:=gv (gE0 lt);obtain⟨v,hv,_⟩:=r1.get hx;obtain⟨w,hw,_⟩:=r2.get hy;exact⟨vs1,vs2,v,w,sm _ _ g1,sm _ _ g2,hv,hw⟩
  ·refine⟨vs1,vs2,sm _ _ g1,sm _ _ g2,?_⟩;subst ei;unfold g_;rw[lM0,List.length_zip,r1.length,r2.length];omega
  ·obtain⟨t,zs1,zs2,x1,y1,ht,a1,a2,b1,b2,rfl,rfl⟩:=y;rw[sm _ _ g1] at a1;cases a1;rw[sm _ _ g2] at a2;cases a2;obtain⟨dx,dy,hx,hy,rfl⟩:=gv hd;obtain⟨v,hv,rv⟩:=r1.get hx;obtain⟨w,hw,rw'⟩:=r2.get hy;rw[b1] at hv;cases hv;rw[b2] at hw;cases hw;exact .inr ⟨t,_,[dx,dy],ht,rfl,rfl,⟨_,_,rfl,rv,_,_,rfl,rw',rfl⟩,rfl⟩⟩
noncomputable def uO (xs:List D):List D:=xs.mapIdx fun i x=>.tup [.int i,x]
def iE3 (t3:TA3) (Γ:G) (Q:List D->G->Prop):Prop:=t3 Γ fun ds Γ1=>∃ xs,ds=[.lst xs]/\Q (uO xs) Γ1
theorem qw {xs:List D} {i:Nat} {d:D} (h:(uO xs)[i]?=some d):∃ x,xs[i]?=some x/\d=.tup [.int i,x]:=by
 unfold uO at h;rw[List.getElem?_mapIdx] at h;cases q:xs[i]? with
 | none=>rw[q] at h;cases h
 | some p=>rw[q] at h;cases h;exact⟨_,rfl,rfl⟩
theorem sI {a:Expr} {ta:TA} {a3:TA3} {es:List Expr} {kt:Nat} {tp p pos:Pos} (hg:Gl X "enumerate") (hm:X.mg "enumerate"=none) (ha:P3A K X [a] ta a3) (hs:autoParam (starEach [a] X.env=[(false,eval a X.env)]) r0) :
  P3I K X (.Tuple es kt tp) (.Call (.Name "enumerate" p) [a] [] pos) (Jv ta) (iE3 a3):=⟨Hq hg hm ha.pe hs,fun B F σ H Γ Q R e q k=>
 ha.rf B F σ H Γ _ _ e q fun vs H' Z=>by
  obtain⟨F',Γ',ds,s,e',rv,xs,h1,q'⟩:=Z;subst h1;obtain⟨v,ws,rfl,⟨p1,vs1,rfl,g1,r1⟩,r3⟩:=rv;cases r3;refine⟨p1,vs1,rfl,e'.sub _ _ g1,k _ H' F' Γ' _ s e' ⟨fun i H'' sm lt=>?_,fun i H'' sm ei=>?_,fun i H'' x H3 d sm hd y=>?_⟩ q'⟩
  ·obtain⟨x,hx,_⟩:=qw (gE0 lt);obtain⟨v,hv,_⟩:=r1.get hx;exact⟨vs1,v,sm _ _ g1,hv⟩
  ·refine⟨vs1,sm _ _ g1,?_⟩;subst ei;unfold uO;rw[List.length_mapIdx,r1.length];exact Nat.le_refl _
  ·obtain⟨t,zs1,x1,ht,a1,b1,rfl,rfl⟩:=y;rw[sm _ _ g1] at a1;cases a1;obtain⟨dx,hx,rfl⟩:=qw hd;obtain⟨v,hv,rv⟩:=r1.get hx;rw[b1] at hv;cases hv;exact .inr ⟨t,_,[.int i,dx],ht,rfl,rfl,⟨_,_,rfl,rfl,_,_,rfl,rv,rfl⟩,rfl⟩⟩
theorem GO {p:Addr} {vs:List V} (h:H p=some (.lst vs)):tyV K "list" (.ref p) H:=.inl ⟨rfl,_,SqL.of h⟩
theorem En.c_ (e:En K B F σ H Γ) {i:Nat} {xs:List D} (h:c_ Γ i=some xs):∃ p vs,σ[i]?=some (some (V.ref p))/\H p=some (.lst vs)/\aD K F xs vs:=by
 obtain⟨p,a,b,vs,c,d⟩:=e.hl i _ (v8 h);exact⟨p,vs,a,c,d⟩
def Ln (i:Nat) (e3:TE3) (Γ:G) (Q:RV->G->Prop):Prop:=(∃ xs,c_ Γ i=some xs)/\e3 Γ fun r Γ1=>∃ xs,c_ Γ1 i=some xs/\xs.length < sizeLine/\Q (.fz .non) (putD Γ1 i (.lst (xs++[r.d])))
theorem Hb {te:TE} {e3:TE3} (i:Nat) (h:Ref K te e3):Ref K (tBM K "list" xf (cH i) (kq te rz)) (Ln i e3):=by
 intro B F σ H Γ Q QQ e ⟨⟨xs0,h0⟩,q⟩ k;obtain⟨p,vs0,a0,b0,_⟩:=e.c_ h0;refine⟨_,a0,GO b0,h B F σ H Γ _ _ e q fun v H' Z=>?_⟩;obtain⟨F',Γ',r,s,e',rv,xs,hx,hz,q'⟩:=Z;obtain⟨F2,s2,e2,r2⟩:=e'.frozen rv;obtain⟨p',vs,a,b,c⟩:=e2.c_ hx;rw[a0] at a;cases a;exact⟨p,vs,v,rfl,rfl,b,by rw[c.length];exact hz,k _ _ ⟨F2,_,.fz .non,s.trans s2,e2.mut hx a0 (aD.append (ys:=[r.d]) c ⟨v,[],rfl,r2,rfl⟩),rfl,q'⟩⟩
variable {o e:Expr} {te:TE} {e3:TE3} {eb:TB3} {apos cpos:Pos}
theorem gn (i:Nat) {x:Str} {px:Pos} (hK:X.K=K) (hx:P3B K X (.Name x px) (cH i) (bor i)) (he:P3 K X e te e3) (hbase:autoParam (attributeBase (.Name x px) "append" X.env (eval (.Name x px) X.env)=eval (.Name x px) X.env) r0)
  (hfew:((backTo cpos (starEach [e] X.env)).all (fun x=>!x.1) && (backToKw cpos (keywordEach [] X.env)).all (fun x=>x.1.isSome)
   && decide ([e].length + ([]:List Keyword).length + (if ([]:List Keyword).isEmpty then 0 else 1) < 30))=true:=by rfl)
  (hline:autoParam ((apos.endLine == cpos.line)=true) r0) (hs:autoParam (starEach [e] X.env=(false,eval e X.env)::starEach [] X.env) r0) (hplain:autoParam ((backTo cpos (starEach [] X.env)).any (·.1)=false) r0) :
  P3 K X (.Call (.Attribute (.Name x px) "append" apos) [e] [] cpos) (tBM K "list" xf (cH i) (kq te rz)) (Ln i e3):=
 ⟨by subst hK;exact Mf PySem.F.plainAttrs_list PySem.F.slot_list_append PySem.F.type_list_append Di hx.pe (gf he.pe qe hs) hbase hfew hline hs hplain,Hb i he.rf⟩
def BE (i:Nat) (k3:TB3) (e3:TE3) (D:E3) (Γ:G):Prop:=e3 Γ fun r Γ1=>(∃ xs,c_ Γ1 i=some xs)/\k3 Γ1 fun b Γ2=>∃ xs k j,c_ Γ2 i=some xs/\b.at Γ2=some (.int k)/\ixN xs.length k=some j/\D.nx (putD Γ2 i (.lst (xs.set j r.d)))
theorem G2 (i:Nat) {x:Str} {px p2:Pos} {k:Expr} {tk:TE} {k3:TB3} (hx:P3B K X (.Name x px) (cH i) (bor i)) (hk:P3B K X k tk k3) (he:P3 K X e te e3) (pe:PS X (.Assign [.Subscript (.Name x px) k p2] e pos) (hU te (uw (cH i) tk kL))) :
  P3S K X (.Assign [.Subscript (.Name x px) k p2] e pos) (hU te (uw (cH i) tk kL)) (BE i k3 e3):=⟨pe,fun B F σ H Γ D D3 e k q=>
 he.rf B F σ H Γ _ _ e q fun v H' Z=>by
  obtain⟨F',Γ',r,s,e',rv,⟨xs0,h0⟩,q'⟩:=Z;obtain⟨F2,s2,e2,r2⟩:=e'.frozen rv;obtain⟨p,vs0,a0,b0,_⟩:=e2.c_ h0;refine⟨_,a0,hk.rf B F2 σ H' Γ' _ _ e2 q' fun u H2 Z=>?_⟩;obtain⟨F3,Γ3,bo,s3,e3,rb,xs,kk,j,hx,hb,hj,q3⟩:=Z;obtain⟨p',vs,a,b,c⟩:=e3.c_ hx;rw[a0] at a;cases a;have hu:u=.int kk:=e3.bo rb hb;exact⟨p,vs,kk,j,rfl,hu,b,by rw[c.length];exact hj,k.nx F3 σ _ _ ((s.trans s2).trans s3) (e3.mut hx a0 (aD.set (r2.mono s3) j c)) q3⟩⟩
end
section
variable {K:Fg0} {X:Cx} {B:Bs} {F H:Hp} {σ:L2.St} {Γ:G} {pos:Pos}
noncomputable def fV:Option (Option Sl)->Option Sl
 | some (some (.fz d))=>some (.fz d)
 | some (some (.ow d))=>some (.ln d)
 | some (some (.ln d))=>some (.ln d)
 | _=>none
noncomputable def qz (Γ:G):Bo->Option Sl
 | .d x=>some (.fz x)
 | .v i=>fV Γ[i]?
noncomputable def bW:Option Bo->Option Nat
 | some (.v i)=>some i
 | _=>none
noncomputable def EX (Γ:G) (σ:L2.St) (k:Nat):Option Bo->Option (Nat×Addr)
 | some (.v i)=>match Γ[i]?,σ[i]? with
  | some (some (.ow _)),some (some (.ref p))=>some (k,p)
  | some (some (.ln _)),some (some (.ref p))=>some (k,p)
  | _,_=>none
 | _=>none
noncomputable def ownOf (Γ:G) (σ:L2.St) (bs:List (Option Bo)):List (Nat×Addr):=(List.range bs.length).filterMap fun k=>(bs[k]?).bind (EX Γ σ k)
theorem l7 {bs:List (Option Bo)} {k:Nat} {p:Addr}:(k,p)∈ownOf Γ σ bs↔∃ i d,bs[k]?=some (some (Bo.v i))/\Hld Γ i d/\σ[i]?=some (some (V.ref p)):=by
 unfold ownOf;rw[List.mem_filterMap];constructor
 ·rintro⟨k',_,h⟩;cases q:bs[k']? with
  | none=>rw[q] at h;cases h
  | some o=>
   rw[q] at h;change EX Γ σ k' o=some (k,p) at h;unfold EX at h;split at h
   ·rename_i i;split at h
    ·rename_i d p' h1 h2;cases h;exact⟨i,d,q,.inl h1,h2⟩
    ·rename_i d p' h1 h2;cases h;exact⟨i,d,q,.inr h1,h2⟩
    ·cases h
   ·cases h
 ·rintro⟨i,d,h1,h2,h3⟩;refine⟨k,List.mem_range.mpr (gS0 h1).1,?_⟩;rw[h1];show EX Γ σ k (some (Bo.v i))=_;unfold EX;rcases h2 with h2 | h2
  ·simp only[h2,h3]
  ·simp only[h2,h3]
noncomputable def dG (Γ:G) (bs:List (Option Bo)):G:=bs.map fun o=>o.bind (qz Γ)
theorem jk {bs:List (Option Bo)} {k:Nat} {s:Sl}:(dG Γ bs)[k]?=some (some s)↔∃ bo,bs[k]?=some (some bo)/\qz Γ bo=some s:=by
 unfold dG;rw[List.getElem?_map];constructor
 ·intro h;cases q:bs[k]? with
  | none=>rw[q] at h;cases h
  | some o=>
   rw[q] at h;cases o with
   | none=>cases h
   | some bo=>exact⟨bo,rfl,by simpa using h⟩
 ·rintro⟨bo,h1,h2⟩;rw[h1];simp [h2]
theorem IB {bo:Bo} {d:D} (h:qz Γ bo=some (.ln d)):∃ i,bo=.v i/\Hld Γ i d:=by
 cases bo with
 | d x=>cases h
 | v i=>
  change fV Γ[i]?=_ at h;unfold fV at h;split at h
  ·cases h
  ·cases h;rename_i q;exact⟨i,rfl,.inl q⟩
  ·cases h;rename_i q;exact⟨i,rfl,.inr q⟩
  ·cases h
theorem IC {bo:Bo} {d:D} (h:qz Γ bo=some (.fz d)):bo=.d d\/∃ i,bo=.v i/\Γ[i]?=some (some (Sl.fz d)):=by
 cases bo with
 | d x=>cases h;exact .inl rfl
 | v i=>
  change fV Γ[i]?=_ at h;unfold fV at h;split at h
  ·cases h;rename_i q;exact .inr ⟨i,rfl,q⟩
  ·cases h
  ·cases h
  ·cases h
theorem yG {bo:Bo} {d:D}:qz Γ bo≠some (.ow d):=by
 intro h;cases bo with
 | d x=>cases h
 | v i=>change fV Γ[i]?=_ at h;unfold fV at h;split at h <;> cases h
theorem pW {bs:List (Option Bo)}:∀ (k:Nat) (d:D),(dG Γ bs)[k]?≠some (some (Sl.ow d)):=fun k d h=>by
 obtain⟨bo,_,h⟩:=jk.mp h;exact yG h
theorem En.inner (e:En K B F σ H Γ) {bs:List (Option Bo)} {σc:L2.St} (hl:σc.length=bs.length) (hσ:∀ (k:Nat) (bo:Bo) (s:Sl),bs[k]?=some (some bo)->qz Γ bo=some s->∃ v,σc[k]?=some (some v)/\rj K F σ bo v)
  (nd:∀ (k k' i:Nat),bs[k]?=some (some (Bo.v i))->bs[k']?=some (some (Bo.v i))->k=k'):En K ⟨F,H,ownOf Γ σ bs⟩ F σc H (dG Γ bs):=by
 have held:∀ {k d},Hld (dG Γ bs) k d->∃ i p,bs[k]?=some (some (Bo.v i))/\Hld Γ i d/\σ[i]?=some (some (V.ref p))/\σc[k]?=some (some (V.ref p)):=fun {k d} q=>by
  rcases q with q | q
  ·obtain⟨bo,h1,h2⟩:=jk.mp q;exact absurd h2 yG
  ·obtain⟨bo,h1,h2⟩:=jk.mp q;obtain⟨v,h3,h4⟩:=hσ k bo _ h1 h2;obtain⟨i,rfl,h5⟩:=IB h2;obtain⟨p,h6,_⟩:=e.hl i d h5;rw[show σ[i]?=some (some v) from h4] at h6;cases h6;exact⟨i,p,h1,h5,h4,h3⟩
 refine⟨e.sub,by unfold dG;rw[lM0];exact hl,?_,?_,?_,?_,?_,?_,aB.refl F,fun b o h=>.inl h,fun b o h _=>h,fun b h=>h⟩
 ·intro k d q;obtain⟨bo,h1,h2⟩:=jk.mp q;obtain⟨v,h3,h4⟩:=hσ k bo _ h1 h2;refine⟨v,h3,?_⟩;rcases IC h2 with rfl | ⟨i,rfl,h5⟩
  ·exact h4
  ·obtain⟨u,h6,h7⟩:=e.fz i d h5;rw[show σ[i]?=some (some v) from h4] at h6;cases h6;exact h7
 ·intro k d q;obtain⟨i,p,h1,h2,h3,h4⟩:=held q;obtain⟨p',h5,h6,h7⟩:=e.hl i d h2;rw[h3] at h5;cases h5;exact⟨p,h4,h6,h7⟩
 ·intro k d p q;obtain⟨bo,h1,h2⟩:=jk.mp q;exact absurd h2 yG
 ·intro k d p q a;obtain⟨i,p',h1,h2,h3,h4⟩:=held (.inr q);rw[a] at h4;cases h4;exact l7.mpr ⟨i,d,h1,h2,h3⟩
 ·intro k k' d d' p q1 q2 a1 a2;obtain⟨i,p1,h1,h2,h3,h4⟩:=held q1;obtain⟨i',p2,h1',h2',h3',h4'⟩:=held q2;rw[a1] at h4;cases h4;rw[a2] at h4';cases h4';have:=e.dis i i' d d' p h2 h2' h3 h3';subst this;exact nd k k' i h1 h1'
 ·intro k p q;obtain⟨i,d,h1,h2,h3⟩:=l7.mp q;have ha:qz Γ (.v i)=some (.ln d):=by
   show fV Γ[i]?=_;rcases h2 with h2 | h2 <;> rw[h2] <;> rfl
  obtain⟨v,h4,h5⟩:=hσ k _ _ h1 ha;rw[show σ[i]?=some (some v) from h5] at h3;cases h3;exact⟨h4,d,jk.mpr ⟨_,h1,ha⟩⟩
theorem ou {bs:List (Option Bo)}:∀ k p,(k,p)∈ownOf Γ σ bs->∃ j d,(bs.map bW)[k]?=some (some j)/\Hld Γ j d/\σ[j]?=some (some (V.ref p)):=fun k p h=>by
 obtain⟨i,d,h1,h2,h3⟩:=l7.mp h;exact⟨i,d,by rw[List.getElem?_map,h1];rfl,h2,h3⟩
noncomputable def dh (fr:On):List (Option Bo):=fr.map fun o=>o.map Bo.v
def zV (fr:On) (i3:TI3) (g3:TG3) (e3:TE3) (Γ:G) (Q:RV->G->Prop):Prop:=i3 Γ fun xs Γ1=>xs.length < sizeLine/\∃ Iv:Nat->List D->G->Prop,Iv 0 [] (dG Γ1 (dh fr))/\
 (∀ k d ys Γc,xs[k]?=some d->ys.length=k->Iv k ys Γc->g3 d Γc fun Γ2=>e3 Γ2 fun r Γ3=>Iv (k + 1) (ys++[r.d]) Γ3)/\∀ ys Γc,ys.length=xs.length->Iv xs.length ys Γc->Q (.fr (.lst ys)) (bJ fr Γ1 Γc)
theorem Gr {fr:On} (h:(fr.filterMap id).Nodup):∀ (k k' i:Nat),(dh fr)[k]?=some (some (Bo.v i))->(dh fr)[k']?=some (some (Bo.v i))->k=k':=by
 unfold dh;have go:∀ (l:On),(l.filterMap id).Nodup->∀ (k k' i:Nat),l[k]?=some (some i)->l[k']?=some (some i)->k=k':=by
  intro l
  induction l with
  | nil=>intro _ k k' i h;simp at h
  | cons o l ih=>
   intro hn k k' i h h';cases o with
   | none=>
    rw[List.filterMap_cons_none rfl] at hn;cases k with
    | zero=>simp at h
    | succ k=>
     cases k' with
     | zero=>simp at h'
     | succ k'=>rw[ih hn k k' i (by simpa using h) (by simpa using h')]
   | some j=>
    rw[show List.filterMap id (some j::l)=j::List.filterMap id l from rfl,List.nodup_cons] at hn;have mem:∀ {k:Nat},l[k]?=some (some i)->i∈l.filterMap id:=fun q=>List.mem_filterMap.mpr ⟨some i,List.mem_of_getElem? q,rfl⟩;cases k with
    | zero=>
     simp at h;subst h;cases k' with
     | zero=>rfl
     | succ k'=>exact absurd (mem (by simpa using h')) hn.1
    | succ k=>
     cases k' with
     | zero=>
      simp at h';subst h';exact absurd (mem (by simpa using h)) hn.1
     | succ k'=>rw[ih hn.2 k k' i (by simpa using h) (by simpa using h')]
 intro k k' i h1 h2;refine go fr h k k' i ?_ ?_
 ·rw[List.getElem?_map] at h1;cases q:fr[k]? with
  | none=>rw[q] at h1;cases h1
  | some o=>rw[q] at h1;cases o with | none=>cases h1 | some j=>cases h1;rfl
 ·rw[List.getElem?_map] at h2;cases q:fr[k']? with
  | none=>rw[q] at h2;cases h2
  | some o=>rw[q] at h2;cases o with | none=>cases h2 | some j=>cases h2;rfl
theorem uk {fr:On}:(dh fr).map bW=fr:=by
 unfold dh;rw[List.map_map]
 conv=>rhs;rw[<- List.map_id fr]
 refine List.map_congr_left fun o _=>?_;cases o <;> rfl
theorem En.blk (e:En K B F σ H Γ) {fr:On} (nd:(fr.filterMap id).Nodup):En K ⟨F,H,ownOf Γ σ (dh fr)⟩ F (lP fr σ) H (dG Γ (dh fr)):=by
 refine e.inner (by unfold lP dh;simp) (fun k bo s h1 h2=>?_) (Gr nd);unfold dh at h1;rw[List.getElem?_map] at h1;cases q:fr[k]? with
 | none=>rw[q] at h1;cases h1
 | some o=>
  rw[q] at h1;cases o with
  | none=>cases h1
  | some j=>
   cases h1;have:∃ d,Gat Γ j=some d:=by
    change fV Γ[j]?=_ at h2;unfold fV at h2;unfold Gat
    split at h2 <;> first | (cases h2;done) | (rename_i w;rw[w];exact⟨_,rfl⟩) | exact⟨_,rfl⟩
   obtain⟨d,hd⟩:=this;obtain⟨v,hv,_⟩:=e.get hd;refine⟨v,?_,hv⟩;unfold lP;rw[List.getElem?_map,q];simp [hv]
theorem yY {fr:On} {wi:TI} {i3:TI3} {g:TG} {g3:TG3} {te:TE} {e3:TE3} (nd:(fr.filterMap id).Nodup) (hi:GD K wi i3) (hg:DL K g g3) (he:Ref K te e3):Ref K (sY fr wi g te) (zV fr i3 g3 e3):=by
 intro B F σ H Γ Q QQ e q k;refine hi B F σ H Γ _ _ e q fun J H1 F1 Γ1 xs s1 e1 R Z=>?_;obtain⟨hz,Iv,i0,it,ie⟩:=Z;have eb:=e1.blk nd;refine⟨fun i m ys σc H=>m=xs.length - i/\i<=xs.length/\∃ F' Γc ds,aB F1 F'/\En K ⟨F1,H1,ownOf Γ1 σ (dh fr)⟩ F' σc H Γc/\aD K F' ds ys/\ds.length=i/\Iv i ds Γc,⟨_,rfl,Nat.zero_le _,F1,_,[],aB.refl _,eb,rfl,rfl,i0⟩,?_⟩;rintro i m ys σc H2 ⟨rfl,hi',F2,Γ2,ds,s2,e2,r2,hl,iv⟩;refine⟨by rw[r2.length,hl];omega,?_⟩;by_cases lt:i < xs.length
 ·refine .inr ⟨R.go i H2 (s2.trans e2.sub) lt,fun x H3 y=>?_⟩;have hd:xs[i]?=some xs[i]:=gE0 lt;obtain⟨F3,s3,e3',r3⟩:=R.turn s2 e2 hd y;refine hg _ F3 σc H3 Γ2 x _ _ _ e3' r3 (it i _ ds Γ2 hd hl iv) fun σ2 Γ4 e4 q4=>?_;refine⟨fun y H5=>∃ F5 Γ5 r,aB F3 F5/\En K ⟨F1,H1,ownOf Γ1 σ (dh fr)⟩ F5 σ2 H5 Γ5/\mE K ⟨F1,H1,ownOf Γ1 σ (dh fr)⟩ F5 σ2 H5 Γ5 y r/\Iv (i + 1) (ds++[r.d]) Γ5,fun y H5 Z=>?_,he _ F3 σ2 H3 Γ4 _ _ e4 q4 fun v H' p=>p⟩;obtain⟨F5,Γ5,r,s5,e5,rv,iv5⟩:=Z;obtain⟨F6,s6,e6,r6⟩:=e5.frozen rv;refine⟨xs.length - (i + 1),by omega,rfl,lt,F6,Γ5,ds++[r.d],((s2.trans s3).trans s5).trans s6,e6,?_,by simp [hl],iv5⟩;exact aD.append (ys:=[r.d]) (r2.mono ((s3.trans s5).trans s6)) ⟨y,[],rfl,r6,rfl⟩
 ·have z:i=xs.length:=by omega
  subst z;refine .inl ⟨R.stop _ H2 (s2.trans e2.sub) rfl,fun l hl'=>k _ _ ?_⟩;have eo:En K B F2 σ H2 (bJ fr Γ1 Γ2):=e1.back (ls:=fr) e2 (by have:=ou (Γ:=Γ1) (σ:=σ) (bs:=dh fr);rw[uk] at this;exact this);exact Po.mono (s1.trans s2) (jH eo hl' r2 (ie ds Γ2 hl iv))
theorem bC {elt iter tg:Expr} {sc:Scope} {Nc:Ls0} {fr:On} {wi:TI} {i3:TI3} {g:TG} {g3:TG3} {te:TE} {e3:TE3} (hc:X.calm=true) (hi:P3I K X tg iter wi i3) (Bk:Blk X.N X.env.scope sc Nc fr)
  (hg:∀ s₀ H₀ C ex pn,P3G K (br X sc Nc s₀ H₀ C ex pn) tg g g3) (he:∀ s₀ H₀ C ex pn,P3 K (br X sc Nc s₀ H₀ C ex pn) elt te e3) (nd:autoParam ((fr.filterMap id).Nodup) d0) (hs:autoParam (∀ x,foldedSetIterable iter X.env x=pure x) j0) :
  P3 K X (.ListComp elt [⟨tg,iter,[],0⟩] sc pos) (sY fr wi g te) (zV fr i3 g3 e3):=
 ⟨BQ hc hi.pe Bk (fun a b c d e=>(hg a b c d e).pe) (fun a b c d e=>(he a b c d e).pe) hs,yY nd hi.rf (hg X.s₀ X.H₀ 0 [] []).rf (he X.s₀ X.H₀ 0 [] []).rf⟩
theorem dA {i:Nat} {x:Str} {px spos:Pos} {elt iter tg:Expr} {sc:Scope} {Nc:Ls0} {fr:On} {wi:TI} {i3:TI3} {g:TG} {g3:TG3} {te:TE} {e3:TE3} (hN:X.N.Nodup) (hi':X.N[i]?=some x) (hx:X.env.scope.names.lookup x=some .local)
  (hc:X.calm=true) (hi:P3I K X tg iter wi i3) (Bk:Blk X.N X.env.scope sc Nc fr)
  (hg:∀ s₀ H₀ C ex pn,P3G K (br X sc Nc s₀ H₀ C ex pn) tg g g3) (he:∀ s₀ H₀ C ex pn,P3 K (br X sc Nc s₀ H₀ C ex pn) elt te e3) (nd:autoParam ((fr.filterMap id).Nodup) d0)
  (hsw:autoParam (swapsWith (.ListComp elt [⟨tg,iter,[],0⟩] sc pos) (some (.Name x px)) spos.line X.env=pure true) r0) (hs:autoParam (∀ x,foldedSetIterable iter X.env x=pure x) j0) :
  P3S K X (.Assign [.Name x px] (.ListComp elt [⟨tg,iter,[],0⟩] sc pos) spos) (hU (sY fr wi g te) (i9 i)) (G0 i (zV fr i3 g3 e3)):=
 ⟨Aw hN hi' hx hc hi.pe Bk (fun a b c d e=>(hg a b c d e).pe) (fun a b c d e=>(he a b c d e).pe) hsw hs,BK (yY nd hi.rf (hg X.s₀ X.H₀ 0 [] []).rf (he X.s₀ X.H₀ 0 [] []).rf)⟩
abbrev S3:=G->(RV->G->Prop)->Prop
def sp3 (K:Fg0) (n:Nat) (S:S3):Sp:=fun vs H Q _=>vs.length=n/\∃ F own Γa Q3,En K ⟨F,H,own⟩ F (vs.map some) H Γa/\(∀ (k:Nat) (d:D),Γa[k]?≠some (some (Sl.ow d)))/\S Γa Q3/\∀ r Γ',Q3 r Γ'->∀ v H' F',En K ⟨F,H,own⟩ F' (vs.map some) H' Γ'->mE K ⟨F,H,own⟩ F' (vs.map some) H' Γ' v r->Q v H'
noncomputable def bQ:List Bo->List Nat
 | []=>[]
 | .d _::bs=>bQ bs
 | .v i::bs=>i::bQ bs
def yx (n:Nat) (S:S3) (t3:eA) (Γ:G) (Q:RV->G->Prop):Prop:=t3 Γ fun bs Γ1=>bs.length=n/\(bQ bs).Nodup/\S (dG Γ1 (bs.map some)) fun r Γa=>Q r (bJ ((bs.map some).map bW) Γ1 Γa)
theorem Fi:∀ {bs:List Bo},(bQ bs).Nodup->∀ (k k' i:Nat),(bs.map some)[k]?=some (some (Bo.v i))->(bs.map some)[k']?=some (some (Bo.v i))->k=k':=by
 intro bs h k k' i h1 h2;have key:((((bs.map some).map bW)).filterMap id)=bQ bs:=by
  clear h h1 h2
  induction bs with
  | nil=>rfl
  | cons b bs ih=>cases b with
   | d x=>simpa [bW,bQ] using ih
   | v j=>simpa [bW,bQ] using ih
 rw[<- key] at h;refine Gr h k k' i ?_ ?_
 ·unfold dh;rw[List.getElem?_map,List.getElem?_map,h1];rfl
 ·unfold dh;rw[List.getElem?_map,List.getElem?_map,h2];rfl
theorem a9.get {F:Hp}:∀ {bs:List Bo} {vs:List V},a9 K F σ bs vs->∀ {k:Nat} {bo:Bo},bs[k]?=some bo->∃ v,vs[k]?=some v/\rj K F σ bo v
 | [],_,_,k,bo,e=>by simp at e
 | x::xs,_,⟨v,ws,h1,h2,h3⟩,0,d,e=>by subst h1;simp at e;subst e;exact⟨v,rfl,h2⟩
 | x::xs,_,⟨v,ws,h1,h2,h3⟩,i + 1,d,e=>by
  subst h1;obtain⟨u,a,b⟩:=a9.get h3 (k:=i) (bo:=d) (by simpa using e);exact⟨u,by simpa using a,b⟩
theorem a9.length {F:Hp}:∀ {bs:List Bo} {vs:List V},a9 K F σ bs vs->vs.length=bs.length
 | [],_,h=>by cases h;rfl
 | _::_,_,Z=>by obtain⟨v,ws,h1,h2,h3⟩:=Z;subst h1;simp [a9.length h3]
theorem En.args (e:En K B F σ H Γ) {bs:List Bo} {vs:List V} (r:a9 K F σ bs vs) (nd:(bQ bs).Nodup):En K ⟨F,H,ownOf Γ σ (bs.map some)⟩ F (vs.map some) H (dG Γ (bs.map some)):=by
 refine e.inner (by simp [r.length]) (fun k bo s h1 h2=>?_) (Fi nd);rw[List.getElem?_map] at h1;cases q:bs[k]? with
 | none=>rw[q] at h1;cases h1
 | some b=>
  rw[q] at h1;cases h1;obtain⟨v,a,b⟩:=r.get q;exact⟨v,by rw[List.getElem?_map,a];rfl,b⟩
theorem En.called (e:En K B F σ H Γ) {F' H':Hp} {bs:List (Option Bo)} {σc:L2.St} {Γa:G} {v:V} {r:RV} (e2:En K ⟨F,H,ownOf Γ σ bs⟩ F' σc H' Γa) (rv:mE K ⟨F,H,ownOf Γ σ bs⟩ F' σc H' Γa v r) :
  aB F F'/\En K B F' σ H' (bJ (bs.map bW) Γ Γa)/\mE K B F' σ H' (bJ (bs.map bW) Γ Γa) v r:=by
 have eo:=e.back e2 ou;refine⟨e2.keep,eo,?_⟩;have nw:∀ {p:Addr},H p=none->∀ (i:Nat) (x:D),Hld (bJ (bs.map bW) Γ Γa) i x->σ[i]?≠some (some (V.ref p)):=fun {p} h4' i x hx hp=>by
  obtain⟨d0,w⟩:∃ d0,Hld Γ i d0:=by
   rcases hx with hx | hx <;> rw[dN] at hx
   ·cases w:Γ[i]? with
    | none=>rw[w] at hx;cases hx
    | some s=>rw[w] at hx;cases s with
     | none=>cases hx
     | some s=>cases s with
      | fz d=>cases hx
      | ow d=>exact⟨d,.inl w⟩
      | ln d=>cases hx
   ·cases w:Γ[i]? with
    | none=>rw[w] at hx;cases hx
    | some s=>rw[w] at hx;cases s with
     | none=>cases hx
     | some s=>cases s with
      | fz d=>cases hx
      | ow d=>cases hx
      | ln d=>exact⟨d,.inr w⟩
  obtain⟨p',a,b,c⟩:=e.hl i d0 w;rw[hp] at a;cases a;obtain⟨o,ho⟩:=c.some;rw[h4'] at ho;cases ho
 cases r with
 | fz d=>exact rv
 | fr d=>
  obtain⟨p,h1,h2,h3,h4,h5⟩:=rv;exact⟨p,h1,h2,h3,e.dom p h4,nw h4⟩
 | two xs ys=>
  obtain⟨t,p,q,vs,ws,h1,h2,h3,h4,h5,h6,h7,h8⟩:=rv;exact⟨t,p,q,vs,ws,h1,h2,h3,h4,h5,h6,h7,fun z hz=>⟨(h8 z hz).1,e.dom z (h8 z hz).2.1,nw (h8 z hz).2.1⟩⟩
 | rws xss=>
  obtain⟨p,qs,h1,h2,h3,h4,h8⟩:=rv;exact⟨p,qs,h1,h2,h3,h4,fun z hz=>⟨(h8 z hz).1,e.dom z (h8 z hz).2.1,nw (h8 z hz).2.1⟩⟩
theorem yZ {t:TA} {t3:eA} {S:S3} {n:Nat} {E:XK} (h:rm K t t3):Ref K (kr (sp3 K n S) [] E t) (yx n S t3):=by
 intro B F σ H Γ Q QQ e q k;refine h B F σ H Γ _ _ e q fun vs H1 Z=>?_;obtain⟨F1,Γ1,bs,s1,e1,r1,hn,nd,q1⟩:=Z;show sp3 K n S (vs++[]) H1 QQ E;rw[List.append_nil];refine⟨by rw[r1.length];exact hn,F1,_,_,_,e1.args r1 nd,pW,q1,fun r Γa q v H' F' e2 rv=>?_⟩;obtain⟨a,b,c⟩:=e1.called e2 rv;exact k v H' ⟨F',_,r,s1.trans a,b,c,q⟩
noncomputable def iQ (Γa Γ':G):G:=Γa.mapIdx fun k s=>match s with
 | some (.ln d)=>(match Γ'[k]? with
  | some (some (.ln d'))=>some (.ln d')
  | _=>some (.ln d))
 | s=>s
theorem HC {Γa Γ':G} {k:Nat} {d:D} (h:Γa[k]?=some (some (Sl.ln d))) {d':D} (h':Γ'[k]?=some (some (Sl.ln d'))):(iQ Γa Γ')[k]?=some (some (Sl.ln d')):=by
 unfold iQ;rw[List.getElem?_mapIdx,h];simp [h']
theorem ox {Γa Γ':G} {k:Nat} {s:Sl} (h:(iQ Γa Γ')[k]?=some (some s)):(∃ d d',Γa[k]?=some (some (Sl.ln d))/\s=.ln d')\/(Γa[k]?=some (some s)/\∀ d,s≠.ln d):=by
 unfold iQ at h;rw[List.getElem?_mapIdx] at h;cases w:Γa[k]? with
 | none=>rw[w] at h;cases h
 | some o=>
  rw[w] at h;cases o with
  | none=>cases h
  | some s'=>
   cases s' with
   | fz d=>cases h;exact .inr ⟨rfl,fun d z=>by cases z⟩
   | ow d=>cases h;exact .inr ⟨rfl,fun d z=>by cases z⟩
   | ln d=>
    left
    simp only[Option.map_some,Option.some.injEq] at h;split at h
    ·cases h;exact⟨d,_,rfl,rfl⟩
    ·cases h;exact⟨d,_,rfl,rfl⟩
theorem En.out {F0 H0 F' H':Hp} {own:List (Nat×Addr)} {σa σ':L2.St} {Γa Γ':G} (e0:En K ⟨F0,H0,own⟩ F0 σa H0 Γa) (hno:∀ (k:Nat) (d:D),Γa[k]?≠some (some (Sl.ow d))) (e1:En K ⟨F0,H0,own⟩ F' σ' H' Γ') {v:V} {r:RV} (rv:mE K ⟨F0,H0,own⟩ F' σ' H' Γ' v r) :
  En K ⟨F0,H0,own⟩ F' σa H' (iQ Γa Γ')/\mE K ⟨F0,H0,own⟩ F' σa H' (iQ Γa Γ') v r:=by
 have lnk:∀ {k:Nat} {d:D},Γa[k]?=some (some (Sl.ln d))->∃ p d',(k,p)∈own/\σa[k]?=some (some (V.ref p))/\σ'[k]?=some (some (V.ref p))/\Γ'[k]?=some (some (Sl.ln d'))/\(iQ Γa Γ')[k]?=some (some (Sl.ln d')):=fun {k d} h=>by
  obtain⟨p,a,b,c⟩:=e0.hl k d (.inr h);have m:=e0.ln k d p h a;obtain⟨a',d',b'⟩:=e1.par k p m;exact⟨p,d',m,a,a',b',HC h b'⟩
 have hld:∀ {k:Nat} {d:D},Hld (iQ Γa Γ') k d->∃ p d0,Γa[k]?=some (some (Sl.ln d0))/\(k,p)∈own/\σa[k]?=some (some (V.ref p))/\σ'[k]?=some (some (V.ref p))/\Γ'[k]?=some (some (Sl.ln d)):=fun {k d} h=>by
  rcases h with h | h
  ·rcases ox h with ⟨d1,d2,_,z⟩ | ⟨z,_⟩
   ·cases z
   ·exact absurd z (hno k d)
  ·rcases ox h with ⟨d1,d2,z,_⟩ | ⟨_,z⟩
   ·obtain⟨p,d',m,a,a',b',c'⟩:=lnk z;rw[h] at c';cases c';exact⟨p,d1,z,m,a,a',b'⟩
   ·exact absurd rfl (z d)
 refine⟨⟨e1.sub,?_,?_,?_,?_,?_,?_,?_,e1.keep,e1.new,e1.rest,e1.dom⟩,?_⟩
 ·unfold iQ;rw[List.length_mapIdx];exact e0.len
 ·intro k d q;rcases ox q with ⟨d1,d2,_,z⟩ | ⟨z,_⟩
  ·cases z
  ·obtain⟨u,a,b⟩:=e0.fz k d z;exact⟨u,a,b.mono e1.keep⟩
 ·intro k d q;obtain⟨p,d0,_,m,a,a',b⟩:=hld q;obtain⟨p',x,y,z⟩:=e1.hl k d (.inr b);rw[a'] at x;cases x;exact⟨p,a,y,z⟩
 ·intro k d p q;rcases ox q with ⟨d1,d2,_,z⟩ | ⟨z,_⟩
  ·cases z
  ·exact absurd z (hno k d)
 ·intro k d p q a;obtain⟨p',d0,_,m,a',_⟩:=hld (.inr q);rw[a] at a';cases a';exact m
 ·intro k k' d d' p q1 q2 a1 a2;obtain⟨p1,d1,z1,_⟩:=hld q1;obtain⟨p2,d2,z2,_⟩:=hld q2;exact e0.dis k k' d1 d2 p (.inr z1) (.inr z2) a1 a2
 ·intro k p q;obtain⟨a,d,b⟩:=e0.par k p q;obtain⟨p',d',m,a',_,_,c⟩:=lnk b;exact⟨a,d',c⟩
 ·cases r with
  | fz d=>exact rv
  | fr d=>
   obtain⟨p,h1,h2,h3,h4,h5⟩:=rv;refine⟨p,h1,h2,h3,h4,fun k x hx a=>?_⟩;obtain⟨p',d0,_,m,a',b',c'⟩:=hld hx;rw[a] at a';cases a';exact h5 k x (.inr c') b'
  | two xs ys=>
   obtain⟨t,p,q,vs,ws,h1,h2,h3,h4,h5,h6,h7,h8⟩:=rv;refine⟨t,p,q,vs,ws,h1,h2,h3,h4,h5,h6,h7,fun z hz=>⟨(h8 z hz).1,(h8 z hz).2.1,fun k x hx a=>?_⟩⟩;obtain⟨p',d0,_,m,a',b',c'⟩:=hld hx;rw[a] at a';cases a';exact(h8 z hz).2.2 k x (.inr c') b'
  | rws xss=>
   obtain⟨p,qs,h1,h2,h3,h4,h8⟩:=rv;refine⟨p,qs,h1,h2,h3,h4,fun z hz=>⟨(h8 z hz).1,(h8 z hz).2.1,fun k x hx a=>?_⟩⟩;obtain⟨p',d0,_,m,a',b',c'⟩:=hld hx;rw[a] at a';cases a';exact(h8 z hz).2.2 k x (.inr c') b'
end
noncomputable def dd (N:Ls0) (Γa:G):G:=Γa++List.replicate (N.length - Γa.length) none
section
variable {P:Program} {w:World} {K:Fg0} {mg:SV} {base:Heap}
theorem En.start {B:Bs} {F H:Hp} {vs:List V} {Γa:G} {N:Ls0} (e:En K B F (vs.map some) H Γa) (hl:Γa.length<=N.length):En K B F (L2.start N vs) H (dd N Γa):=by
 have len:=e.len;rw[lM0] at len;have hs:∀ {i:Nat},i < Γa.length->(L2.start N vs)[i]?=(vs.map some)[i]?:=fun {i} h=>by
  unfold L2.start;rw[List.getElem?_append_left (by rw[lM0];omega)]
 have hg:∀ {i:Nat} {s:Sl},(dd N Γa)[i]?=some (some s)->i < Γa.length/\Γa[i]?=some (some s):=fun {i s} h=>by
  unfold dd at h;by_cases lt:i < Γa.length
  ·rw[List.getElem?_append_left lt] at h;exact⟨lt,h⟩
  ·rw[List.getElem?_append_right (by omega)] at h;have:=List.mem_of_getElem? h;rw[List.mem_replicate] at this;cases this.2
 have hh:∀ {i:Nat} {d:D},Hld (dd N Γa) i d->i < Γa.length/\Hld Γa i d:=fun h=>by
  rcases h with h | h
  ·exact⟨(hg h).1,.inl (hg h).2⟩
  ·exact⟨(hg h).1,.inr (hg h).2⟩
 refine⟨e.sub,?_,?_,?_,?_,?_,?_,?_,e.keep,e.new,e.rest,e.dom⟩
 ·unfold L2.start dd;simp only[List.length_append,lM0,List.length_replicate];omega
 ·intro i d q;obtain⟨lt,q⟩:=hg q;rw[hs lt];exact e.fz i d q
 ·intro i d q;obtain⟨lt,q⟩:=hh q;rw[hs lt];exact e.hl i d q
 ·intro i d p q a;obtain⟨lt,q⟩:=hg q;rw[hs lt] at a;exact e.ow i d p q a
 ·intro i d p q a;obtain⟨lt,q⟩:=hg q;rw[hs lt] at a;exact e.ln i d p q a
 ·intro i j d d' p q1 q2 a1 a2;obtain⟨l1,q1⟩:=hh q1;obtain⟨l2,q2⟩:=hh q2;rw[hs l1] at a1;rw[hs l2] at a2;exact e.dis i j d d' p q1 q2 a1 a2
 ·intro i p q;obtain⟨a,d,b⟩:=e.par i p q;have lt:i < Γa.length:=(gS0 b).1;refine⟨by rw[hs lt];exact a,d,?_⟩;unfold dd;rw[List.getElem?_append_left lt];exact b
theorem ok3 {x qual:Str} {st:Stmt} {f:Addr} {fd:FuncData} {N ps:Ls0} {k:Nat} {S:S3} (F:Fun K x qual st f fd) (Sc:aq N ps (ae st)) (hN:autoParam (ps.length<=N.length) d0)
  (hbody:∀ (cdv:Value) (A:Around) (outer:List Env) (s:Shared) (H:Hp) (E:XK),bN k (A.deeper (envOfC qual (ae st) s.heap.objs.size f cdv))->
   ∃ t t3,lR K (yk CX0 P w K mg base N qual (ae st) f cdv A outer s H E).nox (c7 st) t t3/\∀ Γa Q,S Γa Q->Γa.length=ps.length->t3 { nx:=fun Γ'=>Q (.fz .non) (iQ Γa Γ'),rt:=fun r Γ'=>Q r (iQ Γa Γ') } (dd N Γa)) :
  aG P w K mg base CX0 (k + 1) f fd ps (sp3 K ps.length S):=by
 refine F.ok Sc (fun vs H Q E h=>h.1) fun cdv A outer s H vs Q E hr h=>?_;obtain⟨hl,F0,own,Γa,Q3,e,hno,hS,hQ⟩:=h;obtain⟨t,t3,ht,rd⟩:=hbody cdv A outer s H E hr;have hla:Γa.length=ps.length:=by rw[<- e.len,lM0];exact hl
 refine⟨t,ht.pe,ht.rf ⟨F0,H,own⟩ F0 _ H _ _ { nx:=fun Γ'=>Q3 (.fz .non) (iQ Γa Γ'),rt:=fun r Γ'=>Q3 r (iQ Γa Γ') } (e.start (N:=N) (by rw[hla];exact hN)) ⟨?_,?_,fun _ _ _ _ _ _ z=>False.elim z,fun _ _ _ _ _ _ z=>False.elim z⟩ (rd Γa Q3 hS hla)⟩
 ·intro F' σ' H' Γ' s' e' q;obtain⟨a,b⟩:=e.out hno e' (v:=.non) (r:=.fz .non) rfl;exact hQ _ _ q _ _ _ a b
 ·intro F' σ' H' Γ' v r s' e' rv q;obtain⟨a,b⟩:=e.out hno e' rv;exact hQ _ _ q _ _ _ a b
end
section
variable {K:Fg0} {X:Cx} {k:Nat} {f C:Addr} {fd:FuncData} {ps:Ls0} {x m:Str} {p pos apos:Pos} {e o:Expr} {es:List Expr} {ta:TE} {t:TA} {t3:eA} {o3:TB3} {n:Nat} {S:S3}
theorem au (hK:X.K=K) (F:aG X.prog X.w X.K X.mg X.base CX0 k f fd ps (sp3 K n S)) (hr:bN k X.A) (hg:Gl X x) (hm:X.mg x=some (.ref f)) (hk:PySem.W.keepIn X.K (.ref f)=true) (hb:Binds X.K fd ps [])
  (ha:rY K X (e::es) t t3) (hdb:autoParam ((x == ("__debug__":Str))=false) d0) (he:autoParam (starEach (e::es) X.env=(false,eval e X.env)::starEach es X.env) r0) (hpl:autoParam ((backTo pos (starEach es X.env)).any (·.1)=false) r0) :
  P3 K X (.Call (.Name x p) (e::es) [] pos) (kr (sp3 K n S) [] E0 t) (yx n S t3):=⟨xk F hr hg hm hk hb .nil qE ha.pe hdb he hpl,yZ ha.rf⟩
theorem EW (hK:X.K=K) (F:aG X.prog X.w X.K X.mg X.base CX0 k f fd ps (sp3 K n S)) (hr:bN k X.A) (hg:Gl X x) (hm:X.mg x=some (.ref f)) (hk:PySem.W.keepIn X.K (.ref f)=true) (hb:Binds X.K fd ps [])
  (hdb:autoParam ((x == ("__debug__":Str))=false) d0) :
  P3 K X (.Call (.Name x p) [] [] pos) (kr (sp3 K n S) [] E0 rz) (yx n S HJ):=⟨EM F hr hg hm hk hb .nil qE hdb,yZ (ab (X:=X)).rf⟩
def BX (C:Addr) (m:Str) (n:Nat) (S:S3) (o3:TB3) (t3:eA) (Γ:G) (Q:RV->G->Prop):Prop:=o3 Γ fun x Γ1=>(∃ ns xs,x.at Γ1=some (.ins C ns xs)/\m∉ns)/\t3 Γ1 fun bs Γ2=>bs.length + 1=n/\(bQ (x::bs)).Nodup/\S (dG Γ2 ((x::bs).map some)) fun r Γa=>Q r (bJ (((x::bs).map some).map bW) Γ2 Γa)
theorem Dl {ns:Ls0}:∀ {gs:List (Str×V)} {m:Str},gs.map (·.1)=ns->m∉ns->gs.lookup m=none:=by
 induction ns with
 | nil=>intro gs m h _;cases gs with | nil=>rfl | cons=>cases h
 | cons a ns ih=>
  intro gs m h hn;cases gs with
  | nil=>cases h
  | cons g gs=>
   simp only[List.map_cons,List.cons.injEq] at h;obtain⟨rfl,h⟩:=h;rw[List.mem_cons,not_or] at hn;obtain⟨g1,g2⟩:=g;rw[List.lookup_cons,show (m == g1)=false from beq_eq_false_iff_ne.mpr hn.1];exact ih h hn.2
theorem yW (ho:vA K ta o3) (ha:rm K t t3):Ref K (yL C m (sp3 K n S) [] E0 ta t) (BX C m n S o3 t3):=by
 intro B F σ H Γ Q QQ e q kk;refine ho B F σ H Γ _ _ e q fun v H0 Z=>?_;obtain⟨F0,Γ0,bo,s0,e0,r0,⟨ns,xs,hx,hm⟩,q0⟩:=Z;obtain⟨p,dx,gs,rfl,h1,h2,h3⟩:=e0.bo r0 hx;refine⟨p,dx,gs,rfl,h1,Dl h2 hm,ha B F0 σ H0 Γ0 _ _ e0 q0 fun vs H1 Z=>?_⟩;obtain⟨F1,Γ1,bs,s1,e1,r1,hn,nd,q1⟩:=Z;show sp3 K n S (V.ref p::(vs++[])) H1 QQ E0;rw[List.append_nil];have rr:a9 K F1 σ (bo::bs) (V.ref p::vs):=⟨_,_,rfl,r0.mono s1,r1⟩;refine⟨by rw[rr.length];exact hn,F1,_,_,_,e1.args rr nd,pW,q1,fun r Γa q v H' F' e2 rv=>?_⟩;obtain⟨a,b,c⟩:=e1.called e2 rv;exact kk v H' ⟨F',_,r,(s0.trans s1).trans a,b,c,q⟩
theorem bB {pl:Sem Bool} (hK:X.K=K) (he:P3B K X o ta o3) (c:Cls X.K C) (hm:Meth X.K C m f) (F:aG X.prog X.w X.K X.mg X.base CX0 k f fd ps (sp3 K n S)) (hr:bN k X.A) (hb:Binds X.K fd ps []) (ha:rY K X (e::es) t t3)
  (hst:autoParam (starEach (e::es) X.env=(false,eval e X.env)::starEach es X.env) r0) (hpl:autoParam ((backTo pos (starEach es X.env)).any (·.1)=false) r0)
  (ht:eval (.Call (.Attribute o m apos) (e::es) [] pos) X.env=(do
   let ov <- eval o X.env
   standAt apos.atName
   let (f,first) <- holding [ov] (getMethod ov m pl)
   callWith pos f first (backTo pos (starEach (e::es) X.env)) (backToKw pos (keywordEach [] X.env))):=by rfl) :
  P3 K X (.Call (.Attribute o m apos) (e::es) [] pos) (yL C m (sp3 K n S) [] E0 ta t) (BX C m n S o3 t3):=⟨Hr he.pe c hm F hr hb .nil qE ha.pe hst hpl ht,yW he.rf ha.rf⟩
theorem aZ {pl:Sem Bool} (hK:X.K=K) (he:P3B K X o ta o3) (c:Cls X.K C) (hm:Meth X.K C m f) (F:aG X.prog X.w X.K X.mg X.base CX0 k f fd ps (sp3 K n S)) (hr:bN k X.A) (hb:Binds X.K fd ps [])
  (ht:eval (.Call (.Attribute o m apos) [] [] pos) X.env=(do
   let ov <- eval o X.env
   standAt apos.atName
   let (f,first) <- holding [ov] (getMethod ov m pl)
   callWith pos f first (backTo pos (starEach [] X.env)) (backToKw pos (keywordEach [] X.env))):=by rfl) :
  P3 K X (.Call (.Attribute o m apos) [] [] pos) (yL C m (sp3 K n S) [] E0 ta rz) (BX C m n S o3 HJ):=⟨EG he.pe c hm F hr hb .nil qE ht,yW he.rf (ab (X:=X)).rf⟩
theorem P3.or {e:Expr} {t t':TE} {a3 b3:TE3} (h:P3 K X e t a3) (h':P3 K X e t' b3):P3 K X e (fun σ H Q=>t σ H Q\/t' σ H Q) (fun Γ Q=>a3 Γ Q\/b3 Γ Q):=
 ⟨fun pins s σ H Q I q=>q.elim (h.pe pins s σ H Q I) (h'.pe pins s σ H Q I),fun B F σ H Γ Q QQ e q k=>q.imp (fun q=>h.rf B F σ H Γ Q QQ e q k) (fun q=>h'.rf B F σ H Γ Q QQ e q k)⟩
theorem l5 (M:Mk0 X.K C) (hg:Gl X x) (hm:X.mg x=some (.ref C)) (hdb:autoParam ((x == ("__debug__":Str))=false) d0):P3 K X (.Call (.Name x p) [] [] pos) (BB C) (fun Γ Q=>Q (.fr (.ins C [] [])) Γ):=
 ⟨C6 M hg hm hdb,fun B F σ H Γ Q QQ e q k=>fun y dy hy hdy ne=>k _ _ (by
  have e1:=e.alloc hdy (.own y);have hy':(upd H dy (.own y)) y=none:=by rw[ah (Ne.symm ne)];exact hy
  exact⟨F,Γ,.fr (.ins C [] []),aB.refl F,e1.alloc hy' _,⟨y,rfl,e1.nof hy',⟨dy,[],ar,rfl,rfl⟩,e.dom _ hy,e1.uc hy'⟩,q⟩)⟩
end
section
variable {K:Fg0} {X:Cx} {B:Bs} {F H:Hp} {σ:L2.St} {Γ:G} {pos p:Pos} {x:Str}
theorem vR {n:String} (hg:Gl X x) (hm:X.mg x=none) (hv:bootBuiltins x=some (.type n)) (hn:autoParam (x≠"__name__") d0) (hd:autoParam ((x == ("__debug__":Str))=false) d0):P3 K X (.Name x pos) (tC (.ty n)) (t3C (.ty n)):=
 ⟨Hv (v:=.ty n) hg hm hv rfl hn hd,vP fun _=>rfl⟩
theorem tT (i:Nat) {y:Str} {px p2:Pos} {k e:Expr} {tk te:TE} {k3:TB3} {e3:TE3} (hx:P3B K X (.Name y px) (cH i) (bor i)) (hk:P3B K X k tk k3) (he:P3 K X e te e3)
  (ha:∀ v,assign (.Subscript (.Name y px) k p2) X.env v=(do
   let ov <- holding [v] (eval (.Name y px) X.env)
   let iv <- holding [v,ov] (eval k X.env)
   standAt p2
   holding [v,ov,iv] (setItem ov iv v)
   release [v,ov,iv] []):=by intro _;rfl)
  (hs:autoParam (swapsWithSole [.Subscript (.Name y px) k p2] e pos.line X.env=pure false) r0) (hw:autoParam (swappedStores [.Subscript (.Name y px) k p2] e X.env=pure none) r0)
  (h1:autoParam ((assignEach [.Subscript (.Name y px) k p2] X.env).map (·.2)=[assign (.Subscript (.Name y px) k p2) X.env]) r0) :
  P3S K X (.Assign [.Subscript (.Name y px) k p2] e pos) (hU te (uw (cH i) tk kL)) (BE i k3 e3):=G2 i hx hk he (Ax he.pe (EE hx.pe hk.pe set_list ha) hs hw h1)
theorem En.grow (e:En K B F σ H Γ) {H':Hp} (s:aB H H') (S:Addr) (hS:H S=none):∃ F',aB F F'/\En K B F' σ H' Γ/\F' S=none/\∀ b o,b≠S->H b=none->H' b=some o->F' b=some o:=by
 refine⟨fun b=>if H b=none/\b≠S then H' b else F b,?_,?_,?_,?_⟩
 ·intro b o h;show (if _ then _ else _)=_;have:=e.sub b o h;rw[if_neg (by rw[this];simp)];exact h
 ·refine⟨?_,e.len,?_,?_,e.ow,e.ln,e.dis,e.par,?_,?_,fun b o h n=>s b o (e.rest b o h n),fun b h=>e.dom b (s.free h)⟩
  ·intro b o h;change (if _ then _ else _)=_ at h;split at h
   ·exact h
   ·exact s b o (e.sub b o h)
  ·intro i d h;obtain⟨v,a,b⟩:=e.fz i d h;refine⟨v,a,b.mono fun b o h=>?_⟩;show (if _ then _ else _)=_;have:=e.sub b o h;rw[if_neg (by rw[this];simp)];exact h
  ·intro i d h;obtain⟨q,a,b,c⟩:=e.hl i d h;obtain⟨o,ho⟩:=c.some;refine⟨q,a,?_,c.mono (fun b o h=>?_) (by rw[ho];exact s _ _ ho)⟩
   ·show (if _ then _ else _)=_;rw[if_neg (by rw[ho];simp)];exact b
   ·show (if _ then _ else _)=_;have:=e.sub b o h;rw[if_neg (by rw[this];simp)];exact h
  ·intro b o h;have h':=e.keep b o h;show (if _ then _ else _)=_;have:=e.sub b o h';rw[if_neg (by rw[this];simp)];exact h'
  ·intro b o h;change (if _ then _ else _)=_ at h;split at h
   ·rename_i q;exact .inr (e.dom b q.1)
   ·exact e.new b o h
 ·show (if _ then _ else _)=_;rw[if_neg (by simp)];exact e.nof hS
 ·intro b o n h h';show (if _ then _ else _)=_;rw[if_pos ⟨h,n⟩];exact h'
def lz3 (t3:eA) (Γ:G) (Q:RV->G->Prop):Prop:=t3 Γ fun bs Γ1=>∃ xs ys,ats Γ1 bs=some [.lst xs,.lst ys]/\min xs.length ys.length < sizeLine/\Q (.fr (.lst (g_ xs ys))) Γ1
theorem BJ {F:Hp}:∀ {ds:List D} {vs:List V},vs.length=ds.length->(∀ (i:Nat) d v,ds[i]?=some d->vs[i]?=some v->Rep K F d v)->aD K F ds vs
 | [],vs,h,_=>by cases vs with | nil=>rfl | cons=>simp at h
 | d::ds,vs,h,k=>by
  cases vs with
  | nil=>simp at h
  | cons v vs=>exact⟨v,vs,rfl,k 0 d v rfl rfl,BJ (by simpa using h) fun i d v h1 h2=>k (i + 1) d v (by simpa using h1) (by simpa using h2)⟩
theorem sR {xs ys:List D}:(g_ xs ys).length=min xs.length ys.length:=by unfold g_;rw[lM0,List.length_zip]
theorem AE {a b:Expr} {ta:TA} {t3:eA} {p p2 pos pos2:Pos} (hc:X.calm=true) (hg:Gl X "list") (hm:X.mg "list"=none) (hg2:Gl X "zip") (hm2:X.mg "zip"=none) (ha:rY K X [a,b] ta t3)
  (hs:autoParam (starEach [a,b] X.env=[(false,eval a X.env),(false,eval b X.env)]) r0) (hs2:autoParam (starEach [b] X.env=[(false,eval b X.env)]) r0) (hs3:autoParam (starEach [Expr.Call (.Name "zip" p2) [a,b] [] pos2] X.env=[(false,eval (.Call (.Name "zip" p2) [a,b] [] pos2) X.env)]) r0) :
  P3 K X (.Call (.Name "list" p) [.Call (.Name "zip" p2) [a,b] [] pos2] [] pos) (yM ta) (lz3 t3):=⟨AA hc hg hm hg2 hm2 ha.pe hs hs2 hs3,by
 intro B F σ H Γ Q QQ e q k;refine ha.rf B F σ H Γ _ _ e q fun vs H1 Z=>?_;obtain⟨F1,Γ1,bs,s1,e1,r0,xs,ys,hd,hz,q1⟩:=Z;obtain⟨v,w,rfl,⟨p1,vs1,rfl,g1,r1⟩,⟨p2,vs2,rfl,g2,r2⟩⟩:=(e1.bos r0 hd).two;refine⟨p1,p2,vs1,vs2,rfl,g1,g2,by rw[r1.length,r2.length];exact hz,fun S ts H' hS sm h1 h2 h3 h4=>k _ _ ?_⟩;obtain⟨F2,s2,e2,f2,g⟩:=e1.grow sm S hS;have hS':∀ t∈ts,t≠S:=fun t ht z=>by
  subst z;obtain⟨j,hj,hjt⟩:=List.getElem_of_mem ht;have hx:j < vs1.length:=by rw[h2] at hj;omega
  have hy:j < vs2.length:=by rw[h2] at hj;omega
  have:=h3 j t _ _ (by rw[<- hjt];exact gE0 hj) (gE0 hx) (gE0 hy);rw[h1] at this;cases this
 refine⟨F2,Γ1,.fr (.lst (g_ xs ys)),s1.trans s2,e2,⟨S,rfl,f2,⟨_,h1,?_⟩,e1.dom _ hS,e1.uc hS⟩,q1⟩;refine BJ (by rw[lM0,h2,sR,r1.length,r2.length]) fun i d v hd hv=>?_;obtain⟨dx,dy,hx,hy,rfl⟩:=gv hd;rw[List.getElem?_map] at hv;cases ht:ts[i]? with
 | none=>rw[ht] at hv;cases hv
 | some t=>
  rw[ht] at hv;cases hv;obtain⟨v,hv,rv⟩:=r1.get hx;obtain⟨w,hw,rw'⟩:=r2.get hy;have m:=List.mem_of_getElem? ht;exact⟨t,_,rfl,g t _ (hS' t m) (h4 t m) (h3 i t v w ht hv hw),⟨_,_,rfl,rv.mono s2,_,_,rfl,rw'.mono s2,rfl⟩⟩⟩
theorem jR {ls:On} {cs:G} (h:ls.all (·.isNone)=true):bJ ls Γ cs=Γ:=by
 have hn:∀ j,newD ls cs j=none:=by
  intro j;cases q:newD ls cs j with
  | none=>rfl
  | some d=>
   obtain⟨k,a,_⟩:=gp q;have:=List.all_eq_true.mp h _ (List.mem_of_getElem? a);cases this
 refine List.ext_getElem? fun i=>?_;rw[dN,hn];cases q:Γ[i]? with
 | none=>rfl
 | some s=>cases s with
  | none=>rfl
  | some s=>cases s <;> rfl
end
theorem CD {α:Type} {a:α} {l:List α}:atI (a::l) 0=some a:=by
 unfold L2.atI ixN;simp
theorem CC {α:Type} {a b:α} {l:List α}:atI (a::b::l) 1=some b:=by
 have:ixN (a::b::l).length 1=some 1:=by
  unfold ixN;rw[if_pos (by decide),if_pos (by simp;omega)];rfl
 unfold L2.atI;rw[this];rfl
theorem CB {α:Type} {a b c:α} {l:List α}:atI (a::b::c::l) 2=some c:=by
 have:ixN (a::b::c::l).length 2=some 2:=by
  unfold ixN;rw[if_pos (by decide),if_pos (by simp;omega)];rfl
 unfold L2.atI;rw[this];rfl
theorem CA {α:Type} {a b c d:α} {l:List α}:atI (a::b::c::d::l) 3=some d:=by
 have:ixN (a::b::c::d::l).length 3=some 3:=by
  unfold ixN;rw[if_pos (by decide),if_pos (by simp;omega)];rfl
 unfold L2.atI;rw[this];rfl
theorem xN:ixN 3 0=some 0:=rfl
theorem xM:ixN 3 1=some 1:=rfl
theorem xK:ixN 3 2=some 2:=rfl
theorem a8 {α:Type} {xs:List α} {k:Int} {d:α} (h:0<=k) (e:xs[k.toNat]?=some d):atI xs k=some d:=by
 obtain⟨j,rfl⟩:∃ j:Nat,k=(j:Int):=⟨k.toNat,by omega⟩;exact Iz (by simpa using e)
theorem Cz {ns:Li0} {k:Int} (h0:0<=k) (h1:k < (ns.length:Int)):atI (ns.map D.int) k=some (.int (ns.getD k.toNat 0)):=by
 refine a8 h0 ?_;have:k.toNat < ns.length:=by omega
 rw[List.getElem?_map,gE0 this];simp [List.getD,this]
theorem Iw {ns:Li0} {k:Int} (h0:0<=k) (h1:k < (ns.length:Int)):atI ns k=some (ns.getD k.toNat 0):=by
 refine a8 h0 ?_;have:k.toNat < ns.length:=by omega
 rw[gE0 this];simp [List.getD,this]
theorem IA {α:Type} {xs:List α} {k:Int} (h0:0<=k) (h1:k < (xs.length:Int)):∃ d,atI xs k=some d/\d∈xs:=by
 have:k.toNat < xs.length:=by omega
 exact⟨xs[k.toNat],a8 h0 (gE0 this),List.getElem_mem this⟩
theorem pV {ns:Li0} (h:1<=ns.length):atI (ns.map D.int) (-1)=some (.int (ns.getD (ns.length - 1) 0)):=by
 have e:ixN (ns.map D.int).length (-1)=some (ns.length - 1):=by
  unfold ixN;rw[lM0,if_neg (by decide),if_pos (by omega)]
  congr 1
  omega
 unfold L2.atI;rw[e];have:ns.length - 1 < ns.length:=by omega
 show (ns.map D.int)[ns.length - 1]?=_;rw[List.getElem?_map,gE0 this];simp [List.getD,this]
section
variable {K:Fg0} {P:Program} {w:World} {mg:SV} {base:Heap}
def Jp (n:Nat):S3:=fun Γ Q=>∃ ns:Li0,Γ=[some (.fz (.scr ns))]/\ns.length<=n/\∀ Γ',Q (.fz (.bl true)) Γ'
theorem K1 {k n:Nat} {f:Addr} {fd:FuncData} {ps:Ls0} (F:aG P w K mg base CX0 k f fd ps (sp3 K 1 (Jp n))) :
  aG P w K mg base CX0 k f fd ps (fun vs H Q _=>∃ (p:Addr) (ns:Li0),vs=[.ref p]/\SqL K H p (ns.map V.int)/\ns.length<=n/\∀ H',Q (.bl true) H'):=by
 refine F.imp fun vs H Q E h=>?_;obtain⟨p,ns,rfl,hs,hn,q⟩:=h;have go1:∀ {i:Nat} {s:Sl},([some (Sl.fz (.scr ns))]:G)[i]?=some (some s)->i=0/\s=.fz (.scr ns):=fun {i s} h=>by
  cases i with
  | zero=>cases h;exact⟨rfl,rfl⟩
  | succ i=>cases h
 refine⟨rfl,H,[],[some (.fz (.scr ns))],fun r _=>r=.fz (.bl true),⟨aB.refl H,rfl,?_,?_,?_,?_,?_,?_,aB.refl H,fun b o h=>.inl h,fun b o h _=>h,fun b h=>h⟩,?_,⟨ns,rfl,hn,fun _=>rfl⟩,?_⟩
 ·intro i d h;obtain⟨rfl,e⟩:=go1 h;cases e;exact⟨_,rfl,p,rfl,hs⟩
 ·intro i d h;rcases h with h | h <;> cases (go1 h).2
 ·intro i d p h;cases (go1 h).2
 ·intro i d p h;cases (go1 h).2
 ·intro i j d e p h;rcases h with h | h <;> cases (go1 h).2
 ·intro i p h;cases h
 ·intro k d h;cases (go1 h).2
 ·intro r Γ' e v H' F' _ rv;subst e;have:v=.bl true:=rv;subst this;exact q H'
end
open PySem L2 PySem.Spec PySem.SeqAt
noncomputable def b2 (b:Bool):Int:=if b then 1 else 0
mutual
noncomputable def eqN:Nat->D->D->Option Bool
 | _,.non,.non=>some true
 | _,.bl a,.bl b=>some (a == b)
 | _,.int a,.int b=>some (a == b)
 | _,.str a,.str b=>some (a == b)
 | n + 1,.lst xs,.lst ys=>fN n xs ys
 | n + 1,.tup xs,.tup ys=>fN n xs ys
 | _,_,_=>none
noncomputable def fN:Nat->List D->List D->Option Bool
 | _,[],[]=>some true
 | n,x::xs,y::ys=>match eqN n x y,fN n xs ys with
  | some a,some b=>some (a && b)
  | _,_=>none
 | _,_,_=>some false
end
section
variable {K:Fg0} {F H:Hp}
theorem uN {n:Nat}:∀ {xs ys:List D} {k:Bool},fN n xs ys=some k->xs.length≠ys.length->k=false
 | [],[],_,_,h=>absurd rfl h
 | x::xs,[],_,e,_=>by unfold fN at e;cases e;rfl
 | [],y::ys,_,e,_=>by unfold fN at e;cases e;rfl
 | x::xs,y::ys,k,e,h=>by
  unfold fN at e;split at e
  ·rename_i a b ha hb;cases e;rw[uN hb (by simpa using h),Bool.and_false]
  ·cases e
theorem lJ {n:Nat}:∀ {xs ys:List D} {k:Bool},fN n xs ys=some k->∃ e:Nat->Bool,(∀ (j:Nat) x y,xs[j]?=some x->ys[j]?=some y->eqN n x y=some (e j))/\k=((List.range (min xs.length ys.length)).all e && xs.length == ys.length)
 | [],[],k,h=>by unfold fN at h;cases h;exact⟨fun _=>true,fun j x y h=>by simp at h,by simp⟩
 | x::xs,[],k,h=>by unfold fN at h;cases h;exact⟨fun _=>true,fun j x y _ h=>by simp at h,by simp⟩
 | [],y::ys,k,h=>by unfold fN at h;cases h;exact⟨fun _=>true,fun j x y h=>by simp at h,by simp⟩
 | x::xs,y::ys,k,h=>by
  unfold fN at h;split at h
  ·rename_i a b ha hb;cases h;obtain⟨e,h1,h2⟩:=lJ hb;refine⟨fun j=>match j with | 0=>a | j + 1=>e j,fun j x' y' hx hy=>?_,?_⟩
   ·cases j with
    | zero=>simp at hx hy;subst hx hy;exact ha
    | succ j=>exact h1 j x' y' (by simpa using hx) (by simpa using hy)
   ·subst h2;have hm:min (x::xs).length (y::ys).length=min xs.length ys.length + 1:=by simp [Nat.succ_min_succ]
    rw[hm,List.range_succ_eq_map,List.all_cons,List.all_map];simp only[List.length_cons,Function.comp_def,Bool.and_assoc]
    congr 1
    congr 1
    simp
  ·cases h
mutual
theorem ye:∀ {n:Nat} {d d':D} {v:V} {k:Bool},Rep K F d v->Rep K F d' v->eqN n d d'=some k->k=true
 | n,d,d',v,k,h,h',e=>by
  unfold eqN at e;split at e <;> first
   | (cases e;rfl)
   | (cases e;cases h;cases h';simp;done)
   | (cases e;cases h;cases h';done)
   | (cases e;cases h;obtain⟨_,_,z,_⟩:=h';cases z;done)
   | (cases e;cases h';obtain⟨_,_,z,_⟩:=h;cases z;done)
   | (obtain⟨p,vs,rfl,a,b⟩:=h;obtain⟨p',vs',q,a',b'⟩:=h';cases q;rw[a] at a';cases a';exact wx b b' e)
   | (obtain⟨p,vs,rfl,a,b⟩:=h;obtain⟨p',vs',q,a',b'⟩:=h';cases q;rw[a] at a';cases a';done)
   | (cases e;done)
theorem wx:∀ {n:Nat} {xs ys:List D} {vs:List V} {k:Bool},aD K F xs vs->aD K F ys vs->fN n xs ys=some k->k=true
 | n,[],[],_,k,_,_,e=>by unfold fN at e;cases e;rfl
 | n,x::xs,[],_,k,⟨v,ws,h1,_⟩,h',e=>by cases h';cases h1
 | n,[],y::ys,_,k,h,⟨v,ws,h1,_⟩,e=>by cases h;cases h1
 | n,x::xs,y::ys,_,k,⟨v,ws,h1,h2,h3⟩,⟨v',ws',h1',h2',h3'⟩,e=>by
  subst h1;cases h1';unfold fN at e;split at e
  ·rename_i a b ha hb;cases e;rw[ye h2 h2' ha,wx h3 h3' hb];rfl
  ·cases e
end
end
section
variable {K:Fg0} {X:Cx} {F H:Hp} {pins:Pn} {σ:L2.St} {s:Shared}
theorem Vals.at' {xs:List V} {us:Lv0} (r:Vals xs us) {j:Nat} (h:j < us.toArray.size):∃ v,xs[j]?=some v/\RelV v (us.toArray[j]):=by
 have h1:j < xs.length:=by rw[r.length];simpa using h
 obtain⟨u,hu,ru⟩:=r.get (gE0 h1);refine⟨_,gE0 h1,?_⟩;have:us.toArray[j]=u:=by
  have h2:j < us.length:=by simpa using h
  have h3:us[j]?=some us[j]:=gE0 h2;rw[hu] at h3;cases h3;simp
 rw[this];exact ru
theorem xP (I:Inv X pins σ H s) {p:Addr} {vs:List V} (h:H p=some (.lst vs)):∃ its:Lv0,Vals vs its/\s.heap.IsList p its.toArray:=by
 obtain⟨its,n,r,e,_⟩:=I.lst h;exact⟨its,r,_,e,rfl,n,rfl⟩
theorem xO (I:Inv X pins σ H s) {p:Addr} {vs:List V} (h:H p=some (.tup vs)):∃ its:Lv0,Vals vs its/\s.heap.IsTuple p its.toArray:=by
 obtain⟨its,r,⟨o,e,hc,n,d⟩,_⟩:=I.tuple (a:=p) (xs:=vs) (.inl (.inl h));exact⟨its,r,o,e,hc,n,d⟩
theorem yi {n:Nat} {A:Around} {xs ys:List D} {vs ws:List V} {us zs:Lv0} {e:Nat->Bool} (ih:∀ {d d':D} {v v':V} {u u':Value} {k:Bool},Rep K F d v->Rep K F d' v'->RelV v u->RelV v' u'->eqN n d d'=some k->EqAt A s u u' k)
  (r1:aD K F xs vs) (r2:aD K F ys ws) (q1:Vals vs us) (q2:Vals ws zs) (he:∀ (j:Nat) x y,xs[j]?=some x->ys[j]?=some y->eqN n x y=some (e j)) :
  ∀ j (h1:j < us.toArray.size) (h2:j < zs.toArray.size),EqAt A s us.toArray[j] zs.toArray[j] (e j):=fun j h1 h2=>by
 obtain⟨v,hv,rv⟩:=Vals.at' q1 h1;obtain⟨w,hw,rw'⟩:=Vals.at' q2 h2;obtain⟨d,hd,rd⟩:=r1.Ie hv;obtain⟨d',hd',rd'⟩:=r2.Ie hw;exact ih rd rd' rv rw' (he j d d' hd hd')
theorem y0 {n:Nat} {A:Around} {p q:Addr} {xs ys:List D} {vs ws:List V} {k:Bool} (I:Inv X pins σ H s) (ih:∀ {d d':D} {v v':V} {u u':Value} {k:Bool},Rep K F d v->Rep K F d' v'->RelV v u->RelV v' u'->eqN n d d'=some k->EqAt A.in1 s u u' k)
  (h1:H p=some (.lst vs)) (h2:H q=some (.lst ws)) (r1:aD K F xs vs) (r2:aD K F ys ws) (he:fN n xs ys=some k) (hu:A.units < cLine):RcAt A s (.ref p) (.ref q) k:=by
 obtain⟨us,q1,l1⟩:=xP I h1;obtain⟨zs,q2,l2⟩:=xP I h2;have n1:us.toArray.size=xs.length:=by rw[<- r1.length,q1.length];simp
 have n2:zs.toArray.size=ys.length:=by rw[<- r2.length,q2.length];simp
 by_cases hl:xs.length=ys.length
 ·obtain⟨e,g,rfl⟩:=lJ he;have:=RcAt.lists l1 l2 (by rw[n1,n2,hl]) hu (yi ih r1 r2 q1 q2 g);rw[n1] at this;rw[hl,Nat.min_self,beq_self_eq_true,Bool.and_true];rw[hl] at this;exact this
 ·rw[uN he hl];refine RcAt.lists_lengths l1 l2 ?_ hu;rw[n1,n2,bne_iff_ne];exact hl
theorem vQ {n:Nat} {A:Around} {p q:Addr} {xs ys:List D} {vs ws:List V} {k:Bool} (I:Inv X pins σ H s) (ih:∀ {d d':D} {v v':V} {u u':Value} {k:Bool},Rep K F d v->Rep K F d' v'->RelV v u->RelV v' u'->eqN n d d'=some k->EqAt A.in1 s u u' k)
  (h1:H p=some (.tup vs)) (h2:H q=some (.tup ws)) (r1:aD K F xs vs) (r2:aD K F ys ws) (he:fN n xs ys=some k) (hu:A.units < cLine):RcAt A s (.ref p) (.ref q) k:=by
 obtain⟨us,q1,l1⟩:=xO I h1;obtain⟨zs,q2,l2⟩:=xO I h2;have n1:us.toArray.size=xs.length:=by rw[<- r1.length,q1.length];simp
 have n2:zs.toArray.size=ys.length:=by rw[<- r2.length,q2.length];simp
 obtain⟨e,g,rfl⟩:=lJ he;have:=RcAt.tuples l1 l2 hu (yi ih r1 r2 q1 q2 g);rw[n1,n2] at this;exact this
theorem yh (I:Inv X pins σ H s) (sm:aB F H):∀ (n:Nat) {A:Around} {d d':D} {v v':V} {u u':Value} {k:Bool},A.units + n < cLine->Rep K F d v->Rep K F d' v'->RelV v u->RelV v' u'->eqN n d d'=some k->EqAt A s u u' k:=by
 intro n
 induction n with
 | zero=>
  intro A d d' v v' u u' k hu r r' q q' e;unfold eqN at e;split at e <;> (try (cases e;done)) <;> (try (rename_i hn;cases hn;done)) <;> cases r <;> cases r'
  ·cases e;cases q;cases q';exact EqAt.same _
  ·cases e;cases q;cases q';exact .bool_bool _ _
  ·cases e;obtain⟨t,rfl⟩:=q;obtain⟨t',rfl⟩:=q';exact .int_int _ _ _ _
  ·cases e;obtain⟨t,rfl⟩:=q;obtain⟨t',rfl⟩:=q';exact .str_str _ _ _ _
 | succ n ih=>
  intro A d d' v v' u u' k hu r r' q q' e;have hu0:A.units < cLine:=by omega
  have hu1:A.in1.units + n < cLine:=by show A.units + 1 + n < cLine;omega
  have e0:=e;unfold eqN at e;split at e
  ·cases r;cases r';cases e;cases q;cases q';exact EqAt.same _
  ·cases r;cases r';cases e;cases q;cases q';exact .bool_bool _ _
  ·cases r;cases r';cases e;obtain⟨t,rfl⟩:=q;obtain⟨t',rfl⟩:=q';exact .int_int _ _ _ _
  ·cases r;cases r';cases e;obtain⟨t,rfl⟩:=q;obtain⟨t',rfl⟩:=q';exact .str_str _ _ _ _
  ·
   rename_i n' xs ys hn;cases hn;have r0:=r;have r0':=r';obtain⟨p,vs,rfl,a1,b1⟩:=r;obtain⟨p',vs',rfl,a2,b2⟩:=r';cases q;cases q';by_cases z:p=p'
   ·subst z;rw[ye r0 r0' e0];exact EqAt.same _
   ·exact .of_refs z (y0 I (fun r r' q q' e=>ih hu1 r r' q q' e) (sm _ _ a1) (sm _ _ a2) b1 b2 e hu0)
  ·
   rename_i n' xs ys hn;cases hn;have r0:=r;have r0':=r';obtain⟨p,vs,rfl,a1,b1⟩:=r;obtain⟨p',vs',rfl,a2,b2⟩:=r';cases q;cases q';by_cases z:p=p'
   ·subst z;rw[ye r0 r0' e0];exact EqAt.same _
   ·exact .of_refs z (vQ I (fun r r' q q' e=>ih hu1 r r' q q' e) (sm _ _ a1) (sm _ _ a2) b1 b2 e hu0)
  ·cases e
def Em (K:Fg0) (n:Nat) (neg:Bool):R2:=fun x y H Q=>∃ F d d' k,aB F H/\g6 K F H d x/\g6 K F H d' y/\eqN (n + 1) d d'=some k/\Q (.bl (neg ^^ k)) H
theorem LV (I:Inv X pins σ H s) (sm:aB F H) (n:Nat) {A:Around} {d d':D} {v v':V} {u u':Value} {k:Bool} (hu:A.units + n + 1 < cLine) (r:g6 K F H d v) (r':g6 K F H d' v') (q:RelV v u) (q':RelV v' u') (e:eqN (n + 1) d d'=some k):RcAt A s u u' k:=by
 have hu0:A.units < cLine:=by omega
 have hu1:A.in1.units + n < cLine:=by show A.units + 1 + n < cLine;omega
 unfold eqN at e;split at e
 ·cases r;cases r';cases e;cases q;cases q';exact .none_none
 ·cases r;cases r';cases e;cases q;cases q';exact .bool_bool _ _
 ·cases r;cases r';cases e;obtain⟨t,rfl⟩:=q;obtain⟨t',rfl⟩:=q';exact .int_int _ _ _ _
 ·cases r;cases r';cases e;obtain⟨t,rfl⟩:=q;obtain⟨t',rfl⟩:=q';exact .str_str _ _ _ _
 ·rename_i n' xs ys hn;cases hn;obtain⟨p,vs,rfl,a1,b1⟩:=r;obtain⟨p',vs',rfl,a2,b2⟩:=r';cases q;cases q';exact y0 I (fun r r' q q' e=>yh I sm _ hu1 r r' q q' e) a1 a2 b1 b2 e hu0
 ·rename_i n' xs ys hn;cases hn;obtain⟨p,vs,rfl,a1,b1⟩:=r;obtain⟨p',vs',rfl,a2,b2⟩:=r';cases q;cases q';exact vQ I (fun r r' q q' e=>yh I sm _ hu1 r r' q q' e) (sm _ _ a1) (sm _ _ a2) b1 b2 e hu0
 ·cases e
theorem KJ (hK:X.K=K) {n:Nat} (hu:X.A.units + n + 1 < cLine):OpR X (compareOp .Eq) (Em K n false):=by
 intro pins s σ H x y v u Q I rx ry h;obtain⟨F,d,d',k,sm,r,r',e,q⟩:=h;refine LV I sm n hu r r' rx ry e _ _ _ _ (Ba I q (by simp))
def zQ (n:Nat) (neg:Bool) (x y:D) (Γ:G) (Q:RV->G->Prop):Prop:=∃ k,eqN (n + 1) x y=some k/\Q (.fz (.bl (neg ^^ k))) Γ
theorem FL {n:Nat} {neg:Bool}:lS K (Em K n neg) (zQ n neg):=by
 intro B F σ H Γ x y dx dy Q QQ e rx ry q k;obtain⟨b,hb,q⟩:=q;exact⟨F,dx,dy,b,e.sub,rx,ry,hb,k _ _ (om e q)⟩
theorem jP (hK:X.K=K) {k:Nat} (hr:bN k X.A):C3 K X .Eq (Em K 20 false) (zQ 20 false):=⟨KJ hK (by have:=hr.un;omega),FL⟩
theorem Eb {n:Nat} {A:Around} {p q:Addr} {xs ys:List D} {vs ws:List V} {k:Bool} (I:Inv X pins σ H s) (ih:∀ {d d':D} {v v':V} {u u':Value} {k:Bool},Rep K F d v->Rep K F d' v'->RelV v u->RelV v' u'->eqN n d d'=some k->EqAt A.in1 s u u' k)
  (h1:H p=some (.lst vs)) (h2:H q=some (.lst ws)) (r1:aD K F xs vs) (r2:aD K F ys ws) (he:fN n xs ys=some k) (hu:A.units < cLine):RcNeAt A s (.ref p) (.ref q) (!k):=by
 obtain⟨us,q1,l1⟩:=xP I h1;obtain⟨zs,q2,l2⟩:=xP I h2;have n1:us.toArray.size=xs.length:=by rw[<- r1.length,q1.length];simp
 have n2:zs.toArray.size=ys.length:=by rw[<- r2.length,q2.length];simp
 by_cases hl:xs.length=ys.length
 ·obtain⟨e,g,rfl⟩:=lJ he;have:=RcNeAt.lists l1 l2 (by rw[n1,n2,hl]) hu (yi ih r1 r2 q1 q2 g);rw[n1] at this;rw[hl,Nat.min_self,beq_self_eq_true,Bool.and_true];rw[hl] at this;exact this
 ·rw[uN he hl];refine RcNeAt.lists_lengths l1 l2 ?_ hu;rw[n1,n2,bne_iff_ne];exact hl
theorem CU {n:Nat} {A:Around} {p q:Addr} {xs ys:List D} {vs ws:List V} {k:Bool} (I:Inv X pins σ H s) (ih:∀ {d d':D} {v v':V} {u u':Value} {k:Bool},Rep K F d v->Rep K F d' v'->RelV v u->RelV v' u'->eqN n d d'=some k->EqAt A.in1 s u u' k)
  (h1:H p=some (.tup vs)) (h2:H q=some (.tup ws)) (r1:aD K F xs vs) (r2:aD K F ys ws) (he:fN n xs ys=some k) (hu:A.units < cLine):RcNeAt A s (.ref p) (.ref q) (!k):=by
 obtain⟨us,q1,l1⟩:=xO I h1;obtain⟨zs,q2,l2⟩:=xO I h2;have n1:us.toArray.size=xs.length:=by rw[<- r1.length,q1.length];simp
 have n2:zs.toArray.size=ys.length:=by rw[<- r2.length,q2.length];simp
 obtain⟨e,g,rfl⟩:=lJ he;have:=RcNeAt.tuples l1 l2 hu (yi ih r1 r2 q1 q2 g);rw[n1,n2] at this;exact this
theorem LR (I:Inv X pins σ H s) (sm:aB F H) (n:Nat) {A:Around} {d d':D} {v v':V} {u u':Value} {k:Bool} (hu:A.units + n + 1 < cLine) (r:g6 K F H d v) (r':g6 K F H d' v') (q:RelV v u) (q':RelV v' u') (e:eqN (n + 1) d d'=some k):RcNeAt A s u u' (!k):=by
 have hu0:A.units < cLine:=by omega
 have hu1:A.in1.units + n < cLine:=by show A.units + 1 + n < cLine;omega
 unfold eqN at e;split at e
 ·cases r;cases r';cases e;cases q;cases q';exact .none_none
 ·cases r;cases r';cases e;cases q;cases q';exact .bool_bool _ _
 ·cases r;cases r';cases e;obtain⟨t,rfl⟩:=q;obtain⟨t',rfl⟩:=q';exact .int_int _ _ _ _
 ·cases r;cases r';cases e;obtain⟨t,rfl⟩:=q;obtain⟨t',rfl⟩:=q';exact .str_str _ _ _ _
 ·rename_i n' xs ys hn;cases hn;obtain⟨p,vs,rfl,a1,b1⟩:=r;obtain⟨p',vs',rfl,a2,b2⟩:=r';cases q;cases q';exact Eb I (fun r r' q q' e=>yh I sm _ hu1 r r' q q' e) a1 a2 b1 b2 e hu0
 ·rename_i n' xs ys hn;cases hn;obtain⟨p,vs,rfl,a1,b1⟩:=r;obtain⟨p',vs',rfl,a2,b2⟩:=r';cases q;cases q';exact CU I (fun r r' q q' e=>yh I sm _ hu1 r r' q q' e) (sm _ _ a1) (sm _ _ a2) b1 b2 e hu0
 ·cases e
theorem KG (hK:X.K=K) {n:Nat} (hu:X.A.units + n + 1 < cLine):OpR X (compareOp .NotEq) (Em K n true):=by
 intro pins s σ H x y v u Q I rx ry h;obtain⟨F,d,d',k,sm,r,r',e,q⟩:=h;refine LR I sm n hu r r' rx ry e _ _ _ _ (Ba I q (by simp))
theorem iW (hK:X.K=K) {k:Nat} (hr:bN k X.A):C3 K X .NotEq (Em K 20 true) (zQ 20 true):=⟨KG hK (by have:=hr.un;omega),FL⟩
theorem wz {n:Nat}:∀ (xs ys:Li0),fN n (xs.map .int) (ys.map .int)=some (decide (xs=ys))
 | [],[]=>by simp [fN]
 | x::xs,[]=>by simp [fN]
 | [],y::ys=>by simp [fN]
 | x::xs,y::ys=>by
  simp only[List.map_cons,fN,wz xs ys,eqN]
  congr 1
  rw[Bool.eq_iff_iff];simp
theorem lI {n:Nat} (xs ys:Li0):eqN (n + 1) (.lst (xs.map .int)) (.lst (ys.map .int))=some (decide (xs=ys)):=by
 unfold eqN;exact wz xs ys
end
end L3
namespace L2
open PySem PySem.Spec PyProof.Rows
structure Acc (Y:Cx) (D:Addr) (pl:Pn) (ys:List V) (σ:St) (H:Hp) (s:Shared):Prop where
 us:∃ us,Inv Y ((D,bH us us.length)::pl) σ H s/\Vals ys us
 exD:D∈Y.ex
 nd:∀ p∈Y.pn++pl,p.1≠D
abbrev TB:=List V->St->Hp->(List V->St->Hp->Prop)->Prop
def PB (Y:Cx) (D:Addr) (m:Sem Fin->Sem Fin) (t:TB):Prop:=
 ∀ (k:Sem Fin) (pl:Pn) (s:Shared) (ys:List V) (σ:St) (H:Hp) (Q:List V->St->Hp->Prop) (R:Fin->Shared->Prop),Acc Y D pl ys σ H s->t ys σ H Q->
  (∀ ys' σ' H' s',Acc Y D pl ys' σ' H' s'->Q ys' σ' H'->wpAny (model Y.prog Y.w) Y.A k R (fun _ _=>False) s')->wpAny (model Y.prog Y.w) Y.A (m k) R (fun _ _=>False) s
section
variable {Y:Cx} {D:Addr}
def GB (te:TE):TB:=fun ys σ H Q=>ys.length < sizeLine/\te σ H fun y H'=>Q (ys++[y]) σ H'
noncomputable abbrev JD (elt:Expr) (D:Addr) (env:Env) (k:Sem Fin):Sem Fin:=(eval elt env >>= fun x=>call (.builtin "list.append") [.ref D,x] >>= fun _=>pure ()) >>= fun _=>k
theorem Acc.pins {pl:Pn} {ys:List V} {σ σ':St} {H H':Hp} {s s':Shared} {us:Lv0} (a:Acc Y D pl ys σ H s) (I:Inv Y ((D,bH us us.length)::pl) σ' H' s') (r:Vals ys us):Acc Y D pl ys σ' H' s':=⟨⟨us,I,r⟩,a.exD,a.nd⟩
theorem Hx {elt:Expr} {te:TE} (hx:Y.xe=fun _ _=>False) (he:PE Y elt te):PB Y D (JD elt D Y.env) (GB te):=by
 intro k pl s ys σ H Q R a ⟨hz,q⟩ hk;obtain⟨us,I,rv⟩:=a.us;have he':=he _ s σ H _ I q;rw[hx] at he';refine wpAny_bind (wpAny_bind (thn he' fun y s7 ⟨yv,H7,I7,r7,q7⟩=>wpAny_bind ?_));obtain⟨pD,pH,pL,pF,pc⟩:=I7.pin (D,bH us us.length) (List.mem_append_right _ List.mem_cons_self);have hlen:us.length=ys.length:=rv.length.symm;refine append_at (hsz:=by rw[List.size_toArray,hlen];exact Nat.le_of_lt hz) pD fun h8 sb8 hD8=>wpAny_pure ?_;have I7n:Inv Y pl σ H7 s7:=I7.jI fun p z=>I7.pin p (List.mem_append_right _ (List.mem_cons_of_mem _ z));have I8:Inv Y pl σ H7 { s7 with heap:=h8 }:=I7n.turned (t':=s7.toks) (it:=D) (fun b o hb e=>(sb8.2 b hb).trans e) pH pL (.inl a.exD) (fun x c e=>(I7.ok.exf D a.exD).2 x c e) a.nd;have e8:h8.get? D=some (bH (us++[y]) (us++[y]).length):=by
  rw[hD8];simp
 refine hk (ys++[yv]) σ H7 _ ⟨⟨us++[y],I8.jI fun p z=>?_,rv.append (.cons r7 .nil)⟩,a.exD,a.nd⟩ q7;rcases List.mem_cons.mp z with e | z
 ·subst e;exact⟨e8,pH,pL,pF,fun v z=>by cases z⟩
 ·exact I8.pin p (List.mem_append_right _ z)
def bIf (tc:TT) (t:TB):TB:=fun ys σ H Q=>tc σ H fun b H'=>if b=true then t ys σ H' Q else Q ys σ H'
def z9 (J:It) (g:TG) (t:TB):TB:=fun ys σ H Q=>∃ W:Nat->Nat->List V->St->Hp->Prop,(∃ m,W 0 m ys σ H)/\∀ i m ys σ H,W i m ys σ H->
 (J.stop i H/\Q ys σ H)\/(J.go i H/\∀ x H',J.yld i H x H'->g x σ H' fun σ2 H2=>t ys σ2 H2 fun ys' σ' H''=>∃ m',m' < m/\W (i + 1) m' ys' σ' H'')
theorem Jn {elt:Expr} {gens:List Comprehension} {sc:Scope} {pos p0:Pos} {d:Nat} {tg:Expr} {it:Addr} {fp:La0} {tn:Nat->Heap->Prop} {J:It} {g:TG} {m:Sem Fin->Sem Fin} {t:TB}
  (hx:Y.xe=fun _ _=>False) (hc:Y.calm=true) (T:Turn Y.prog Y.w Y.K tg J fp it tn) (hg:PG Y tg g) (hm:PB Y D m t)
  (hturn:compTurn (.ListComp elt gens sc pos) d (.ref it) (.ref D) Y.env=(standAt p0 >>= fun _=>pyNext (.ref it) >>= fun r=>match r with
   | none=>pure (.done .next)
   | some v=>letOwnedTupleGo tg (.ref it) v >>= fun _=>assign tg Y.env v >>= fun _=>m (again (.compLoop (.ListComp elt gens sc pos) d (.ref it) (.ref D) Y.env))))
  {pl:Pn} {ys:List V} {σ:St} {H:Hp} {s:Shared} {Q:List V->St->Hp->Prop} {R:Result->Shared->Prop} (a:Acc Y D pl ys σ H s) (st:tn 0 s.heap) (f:∀ b∈fp,e7 Y pl H b/\D≠b) (q:z9 J g t ys σ H Q)
  (hR:∀ ys' σ' H' s',Acc Y D pl ys' σ' H' s'->Q ys' σ' H'->R (.ok .next) s'):codeAny (model Y.prog Y.w) Y.A (.compLoop (.ListComp elt gens sc pos) d (.ref it) (.ref D) Y.env) R s:=by
 obtain⟨W,⟨m0,w0⟩,turn⟩:=q;have stat:∀ {H':Hp} {o:Obj},(∀ b∈fp,H' b=none)->∀ b∈fp,e7 Y ((D,o)::pl) H' b:=fun hn b hb=>by
  obtain⟨⟨_,f1,f2,f3,f4,f5⟩,f6⟩:=f b hb;refine⟨hn b hb,f1,f2,f3,f4,fun p hp=>?_⟩;rcases List.mem_append.mp hp with hp | hp
  ·exact f5 p (List.mem_append_left _ hp)
  ·rcases List.mem_cons.mp hp with e | hp
   ·subst e;exact f6
   ·exact f5 p (List.mem_append_right _ hp)
 refine codeAny_loop rfl (fun n s'=>∃ i ys' σ' H',Acc Y D pl ys' σ' H' s'/\tn i s'.heap/\(∀ b∈fp,H' b=none)/\W i n ys' σ' H') (fun n s3 hI=>?_) m0 ⟨0,ys,σ,H,a,st,fun b hb=>(f b hb).1.1,w0⟩;show wpAny _ _ ((compTurn (.ListComp elt gens sc pos) d (.ref it) (.ref D) Y.env).onRaise (fun x=>do noteFrame x Y.env;theTreesLotGoes x)) _ _ s3;refine wpAny_noted ?_;rw[hturn];obtain⟨i,ys3,σ3,H3,a3,st3,fr3,w3⟩:=hI;obtain⟨us3,I3,rv3⟩:=a3.us;have noE:∀ {M:Model} {A:Around} {α:Type} {t:Sem α} {Q:α->Shared->Prop} {E:VS} {s:Shared},wpAny M A t Q (fun _ _=>False) s->wpAny M A t Q E s:=fun h=>wpAny_mono h (fun _ _ x=>x) fun _ _ x=>x.elim;refine wpAny_bind (wpAny_standAt (wpAny_bind ?_));rcases turn i n ys3 σ3 H3 w3 with ⟨stop,qn⟩ | ⟨go,step⟩
 ·refine noE (thn (T.done Y rfl rfl rfl hc i _ s3 σ3 H3 _ I3 (stat fr3) st3 stop) fun r s4 Z=>?_);obtain⟨hr,I4⟩:=Z;subst hr;exact wpAny_pure (hR ys3 σ3 H3 s4 (a3.pins I4 rv3) qn)
 ·refine noE (thn (T.item Y rfl rfl rfl hc i _ s3 σ3 H3 _ I3 (stat fr3) st3 go) fun r s4 Z=>?_);obtain⟨u,hr,h4⟩:=Z;subst hr;refine wpAny_bind (noE (thn h4 fun _ s5 Z=>?_));obtain⟨x,H5,I5,r5,y5,st5,fr5⟩:=Z;have I5':=I5.pinned (stat fr5) (T.obj _ _ st5);have hg':=hg _ s5 σ3 H5 x u _ I5' r5 (step x H5 y5);rw[hx] at hg';refine wpAny_bind (noE (thn hg' fun _ s6 Z=>?_));obtain⟨σ6,H6,I6,q6⟩:=Z;have a6:Acc Y D (pl++tV fp s5.heap) ys3 σ6 H6 s6:=⟨⟨us3,I6,rv3⟩,a.exD,fun p hp=>by
   rcases List.mem_append.mp hp with hp | hp
   ·exact a.nd p (List.mem_append_left _ hp)
   ·rcases List.mem_append.mp hp with hp | hp
    ·exact a.nd p (List.mem_append_right _ hp)
    ·exact fun z=>(f p.1 (vW hp).1).2 z.symm⟩
  refine noE (hm _ _ s6 ys3 σ6 H6 _ _ a6 q6 fun ys7 σ7 H7 s7 a7 ⟨m',hlt,w7⟩=>wpAny_pure ⟨rfl,m',hlt,i + 1,ys7,σ7,H7,?_,?_,?_,w7⟩)
  ·obtain⟨us7,I7,rv7⟩:=a7.us;exact⟨⟨us7,I7.jI fun p hp=>I7.pin p (List.mem_append_right _ (by
    rcases List.mem_cons.mp hp with e | hp
    ·subst e;exact List.mem_cons_self
    ·exact List.mem_cons_of_mem _ (List.mem_append_left _ hp))),rv7⟩,a.exD,a.nd⟩
  ·obtain⟨us7,I7,rv7⟩:=a7.us;exact T.keep _ _ _ st5 fun b hb o e=>(I7.pin (b,o) (List.mem_append_right _ (List.mem_cons_of_mem _ (List.mem_append_right _ (eO hb e))))).1
  ·intro b hb;obtain⟨us7,I7,rv7⟩:=a7.us;obtain⟨o,e,d⟩:=T.obj _ _ st5 b hb;exact(I7.pin (b,o) (List.mem_append_right _ (List.mem_cons_of_mem _ (List.mem_append_right _ (eO hb e))))).2.1
end
theorem pC {prog:Program} {w:World} {A:Around} {R:Result->Shared->Prop} {s:Shared} {elt:Expr} {gens:List Comprehension} {sc:Scope} {pos:Pos} {d:Nat} {it acc:Value} {env:Env} {tg iter:Expr} {ifs:List Expr} (hcl:gens[d]?=some ⟨tg,iter,ifs,0⟩)
  (same:codeAny (model prog w) A (.compLoop (.ListComp elt gens sc pos) d it acc env) R s)
  (anew:wpAny (model prog w) A (pyIter it) (fun it2 s2=>codeAny (model prog w) A (.compLoop (.ListComp elt gens sc pos) d it2 acc env) R s2) (notedBy (model prog w) A env fun x s2=>R (.error x) s2) s) :
  codeAny (model prog w) A (.compStart (.ListComp elt gens sc pos) d it acc env) R s:=by
 have cl:(clausesOf (.ListComp elt gens sc pos))[d]?=some ⟨tg,iter,ifs,0⟩:=hcl;apply codeAny_of_tree;apply wpAny_notedAt (pos:=theWindowsPlace) (m:=compStart (.ListComp elt gens sc pos) d it acc env);simp only[compStart,cl];apply wpAny_bind;apply wpAny_askSetting;apply wpAny_ite;split
 ·exact wpAny_pure ⟨rfl,same⟩
 ·apply wpAny_bind;apply wpAny_rule;apply wpAny_bind;apply wpAny_standAt;exact wpAny_bind (wpAny_mono anew (fun _ _ q=>wpAny_pure ⟨rfl,q⟩) fun _ _ q=>q)
section
variable {Y:Cx} {D:Addr}
def Gy (wi:TI) (g:TG) (t:TB):TB:=fun ys σ H Q=>wi σ H fun J H1=>z9 J g t ys σ H1 Q
noncomputable abbrev IX (elt:Expr) (gens:List Comprehension) (sc:Scope) (pos:Pos) (d:Nat) (iter:Expr) (D:Addr) (env:Env) (k:Sem Fin):Sem Fin:=
 eval iter env >>= fun x=>standAt iter.pos >>= fun _=>foldedSetIterable iter env x >>= fun x=>holding [x] (pyIter x) >>= fun itv=>runOwn (.compStart (.ListComp elt gens sc pos) d itv (.ref D) env) env >>= fun _=>k
theorem Hw {elt:Expr} {gens:List Comprehension} {sc:Scope} {pos p0:Pos} {d:Nat} {tg iter:Expr} {ifs:List Expr} {wi:TI} {g:TG} {m:Sem Fin->Sem Fin} {t:TB} (hx:Y.xe=fun _ _=>False) (hc:Y.calm=true) (hcl:gens[d]?=some ⟨tg,iter,ifs,0⟩)
  (hi:PI Y tg iter wi) (hg:PG Y tg g) (hm:PB Y D m t)
  (hturn:∀ it,compTurn (.ListComp elt gens sc pos) d (.ref it) (.ref D) Y.env=(standAt p0 >>= fun _=>pyNext (.ref it) >>= fun r=>match r with
   | none=>pure (.done .next)
   | some v=>letOwnedTupleGo tg (.ref it) v >>= fun _=>assign tg Y.env v >>= fun _=>m (again (.compLoop (.ListComp elt gens sc pos) d (.ref it) (.ref D) Y.env))))
  (hs:autoParam (∀ x,foldedSetIterable iter Y.env x=pure x) j0):PB Y D (IX elt gens sc pos d iter D Y.env) (Gy wi g t):=by
 intro k pl s ys σ H Q R a q hk;obtain⟨us,I,rv⟩:=a.us;have hi':=hi _ s σ H _ I q;rw[hx] at hi';refine wpAny_bind (thn hi' fun v s1 h1=>wpAny_bind (wpAny_standAt (wpAny_bind ?_)));rw[hs];refine wpAny_pure (wpAny_bind (wpAny_holding (thn h1 fun itv s2 h2=>?_)));obtain⟨it,fp,tn,J,H2,e,I2,T,st2,f2,cw⟩:=h2;subst e;have a2:=a.pins I2 rv;refine wpAny_bind (wpAny_runOwn ?_);have lp:∀ {R:Result->Shared->Prop},(∀ ys' σ' H' s',Acc Y D pl ys' σ' H' s'->Q ys' σ' H'->R (.ok .next) s')->codeAny (model Y.prog Y.w) Y.A (.compLoop (.ListComp elt gens sc pos) d (.ref it) (.ref D) Y.env) R s2:=fun hR=>
  Jn hx hc T hg hm (hturn it) a2 st2 (fun b hb=>by
   obtain⟨f0,f1,f3,f4,f5,f6⟩:=f2 b hb;exact⟨⟨f0,f1,f3,f4,f5,fun p hp=>f6 p (by
    rcases List.mem_append.mp hp with hp | hp
    ·exact List.mem_append_left _ hp
    ·exact List.mem_append_right _ (List.mem_cons_of_mem _ hp))⟩,f6 (D,_) (List.mem_append_right _ List.mem_cons_self)⟩) cw hR
 have fin:=lp (R:=fun r s'=>match r with | .ok f=>wpAny (model Y.prog Y.w) Y.A k R (fun _ _=>False) s' | .error e=>False) fun ys' σ' H' s' a' q'=>hk ys' σ' H' s' a' q';have fin2:codeAny (model Y.prog Y.w) Y.A (.compLoop (.ListComp elt gens sc pos) d (.ref it) (.ref D) Y.env) (fun r s'=>match r with | .ok f=>wpAny (model Y.prog Y.w) Y.A k R (fun _ _=>False) s' | .error e=>cameBackBy (model Y.prog Y.w) Y.A Y.env (fun _ _=>False) e s') s2:=
  codeAny_mono fin fun r s' h=>by cases r with | ok f=>exact h | error e=>exact h.elim
 exact pC hcl fin2 (wpAny_mono (T.self Y.A 0 _ _ (fun _ _=>False) st2 fin2) (fun _ _ h=>h) fun _ _ h=>h.elim)
end
section
variable {X:Cx}
theorem zU {elt iter tg:Expr} {gens:List Comprehension} {ifs:List Expr} {sc:Scope} {pos p0:Pos} {Nc:Ls0} {fr:On} {g:TG} {m:Addr->Env->Sem Fin->Sem Fin} {t:TB} (hcl:gens[0]?=some ⟨tg,iter,ifs,0⟩) (B:Blk X.N X.env.scope sc Nc fr) (hc:X.calm=true)
  (hg:∀ s₀ H₀ C ex pn,PG (br X sc Nc s₀ H₀ C ex pn) tg g) (hm:∀ s₀ H₀ C ex pn D,PB (br X sc Nc s₀ H₀ C ex pn) D (m D (br X sc Nc s₀ H₀ C ex pn).env) t)
  (hturn:∀ (it D:Addr) (env:Env),compTurn (.ListComp elt gens sc pos) 0 (.ref it) (.ref D) env=(standAt p0 >>= fun _=>pyNext (.ref it) >>= fun r=>match r with
   | none=>pure (.done .next)
   | some v=>letOwnedTupleGo tg (.ref it) v >>= fun _=>assign tg env v >>= fun _=>m D env (again (.compLoop (.ListComp elt gens sc pos) 0 (.ref it) (.ref D) env))))
  {pins:Pn} {σ:St} {s2:Shared} {H2:Hp} {it:Addr} {fp:La0} {tn:Nat->Heap->Prop} {J:It} (I2:Inv X pins σ H2 s2) (T:Turn X.prog X.w X.K tg J fp it tn) (st2:tn 0 s2.heap) (f2:∀ b∈fp,e7 X pins H2 b)
  {Q:VK} (cw:z9 J g t [] (lP fr σ) H2 fun ys _ H'=>ys.length < sizeLine/\∀ l,H' l=none->Q (.ref l) (upd H' l (.lst ys))) {RR:Value->Addr->Result->Shared->Prop} {E:VS}
  (hRR:∀ D C s' H',Inv X pins σ H' s'->(∃ m,s'.heap.Ns C m)->e7 X pins H' C->Q (.ref D) H'->RR (.ref D) C (.ok .next) s') :
  wpAny (model X.prog X.w) X.A (newList []) (fun acc s₃=>wpAny (model X.prog X.w) X.A (newFunctionEnv sc X.env.globals (takes X.env.cells sc.names []) [] X.env.qual none .none (some X.env)) (fun cenv s₄=>
   codeAny (model X.prog X.w) X.A (.compStart (.ListComp elt gens sc pos) 0 (.ref it) acc { cenv with scope:=relabel sc X.env }) (RR acc cenv.locals) s₄) E s₃) E s2:=by
 refine wpAny_newObj_type (vX fun h₁ hns₁ old₁ cl₁=>?_);dsimp only at hns₁ old₁ cl₁ ⊢;generalize hH2:s2.heap.push { cls:=.type "list",dict:=none,data:=.seq ([]:Lv0).toArray }=hp at hns₁ old₁ cl₁ ⊢;have hCs:hp.objs.size=s2.heap.objs.size + 1:=by rw[<- hH2,Heap.size_push]
 generalize hCe:hp.objs.size=C at hns₁ cl₁ ⊢;generalize hDe:s2.heap.objs.size=D at hCs ⊢;have hDC:D≠C:=by rw[<- hCe,hCs];exact Nat.ne_of_lt (Nat.lt_succ_self _)
 have up:∀ b o,s2.heap.get? b=some o->hp.get? b=some o:=fun b o e=>by rw[<- hH2];exact Heap.get?_push_of_some _ e
 have hDp:hp.get? D=some (bH [] 0):=by rw[<- hH2,<- hDe];exact Heap.get?_push_size _ rfl
 have I3:Inv X pins σ H2 { s2 with heap:=hp }:=I2.kept (t':=s2.toks) up;have hD0:H2 D=none:=I2.hok.fresh (by rw[hDe];exact Nat.le_refl _);have fD:e7 X pins H2 D:=I2.qu (by rw[hDe];exact Nat.le_refl _) hD0;have fpo:∀ b∈fp,∃ o,s2.heap.get? b=some o/\∀ v,o.data≠.cell v:=T.obj 0 _ st2;have fplt:∀ b∈fp,b < D:=fun b hb=>by obtain⟨o,e,_⟩:=fpo b hb;rw[<- hDe];exact Heap.lt_size e
 have hDfp:D∉fp:=fun hb=>Nat.lt_irrefl _ (fplt D hb);have hCfp:C∉fp:=fun hb=>by have:=fplt C hb;rw[<- hCe,hCs] at this;exact absurd (Nat.lt_of_succ_lt this) (Nat.lt_irrefl _)
 have nobase:∀ b,(b∈X.ex\/X.s₀.heap.objs.size<=b)->∀ o,X.base.get? b≠some o:=fun b h o e=>by
  rcases h with h | h
  ·exact I2.ok.noex b o e h
  ·exact absurd (Nat.lt_of_lt_of_le (Heap.lt_size e) (Nat.le_trans I2.ok.bsz h)) (Nat.lt_irrefl _)
 have hex:∀ b∈D::fp,b < hp.objs.size/\b∉X.fs/\b≠X.env.locals/\(∀ x c,X.env.cells.lookup x=some c->c≠b)/\∀ o,X.base.get? b≠some o:=fun b hb=>by
  have fb:e7 X pins H2 b:=by
   rcases List.mem_cons.mp hb with e | hb
   ·rw[e];exact fD
   ·exact f2 b hb
  refine⟨?_,fb.2.2.1,fb.2.1,fb.2.2.2.2.1,nobase b fb.2.2.2.1⟩;rcases List.mem_cons.mp hb with e | hb
  ·rw[e,hCs];exact Nat.lt_succ_self _
  ·rw[hCs];exact Nat.lt_succ_of_lt (fplt b hb)
 have hCle:hp.objs.size<=C:=by rw[hCe];exact Nat.le_refl _
 have ok:(br X sc Nc { s2 with heap:=hp } H2 C (D::fp) (X.pn++pins)).Ok:=Gq B I3 hCle hex;have old:∀ b u,hp.get? b=some u->h₁.get? b=some u:=old₁;have J0:Inv (br X sc Nc { s2 with heap:=hp } H2 C (D::fp) (X.pn++pins)) [(D,bH [] 0)] (lP fr σ) H2 { s2 with heap:=h₁ }:=
  Cw B ok I3 hCle rfl rfl old hns₁ cl₁ hDp hD0 fD.2.1 fD.2.2.1 (fun v z=>by cases z)
 have a0:Acc (br X sc Nc { s2 with heap:=hp } H2 C (D::fp) (X.pn++pins)) D [] [] (lP fr σ) H2 { s2 with heap:=h₁ }:=
  ⟨⟨[],J0,.nil⟩,List.mem_cons_self,fun p hp'=>fD.2.2.2.2.2 p (by simpa using hp')⟩
 have fpY:∀ b∈fp,e7 (br X sc Nc { s2 with heap:=hp } H2 C (D::fp) (X.pn++pins)) [] H2 b/\D≠b:=fun b hb=>
  ⟨⟨(f2 b hb).1,fun e=>hCfp (by have e':b=C:=e;rw[<- e'];exact hb),ok.exfs b (List.mem_cons_of_mem _ hb),.inl (List.mem_cons_of_mem _ hb),(ok.exf b (List.mem_cons_of_mem _ hb)).2,fun p hp'=>(f2 b hb).2.2.2.2.2 p (by simpa using hp')⟩,fun z=>hDfp (by rw[z];exact hb)⟩
 have loop:codeAny (model X.prog X.w) X.A (.compLoop (.ListComp elt gens sc pos) 0 (.ref it) (.ref D) (compEnvC sc (bcl X.env.cells sc C) C X.env)) (RR (.ref D) C) { s2 with heap:=h₁ }:=by
  refine Jn (Y:=br X sc Nc { s2 with heap:=hp } H2 C (D::fp) (X.pn++pins)) (D:=D) rfl hc T (hg _ _ _ _ _) (hm _ _ _ _ _ D) (hturn it D _) a0 (T.keep _ _ _ st2 (fun b _ o e=>old b o (up b o e))) fpY cw fun ys σ4 H3 s4 a4 hq=>?_;obtain⟨us,I4,rv⟩:=a4.us;obtain⟨hsz,qn⟩:=hq;obtain⟨pD,pH,_,_,_⟩:=I4.pin (D,bH us us.length) (List.mem_append_right _ List.mem_cons_self);obtain⟨mC',hnC,_⟩:=I4.loc;have un:Un (frs X.stack) fp H2 (upd H3 D (.lst ys)) s2.heap s4.heap:=by
   have u0:Un (frs X.stack) (D::fp) H2 H3 hp s4.heap:=I4.base;have neD:∀ {b:Addr} {o:Obj},s2.heap.get? b=some o->b≠D:=fun e=>by rw[<- hDe];exact Nat.ne_of_lt (Heap.lt_size e)
   have nx:∀ {b:Addr} {o:Obj},s2.heap.get? b=some o->b∉fp->b∉D::fp:=fun e h1 h2=>by
    rcases List.mem_cons.mp h2 with z | z
    ·exact neD e z
    ·exact h1 z
   have neT:∀ {b:Addr} {o:HO},H2 b=some o->b≠D:=fun e z=>by rw[z,hD0] at e;cases e
   exact⟨fun b o e n hb hx=>u0.keep b o (up b o e) n hb (nx e hx),fun b o e n hb hx=>u0.slot b o (up b o e) n hb (nx e hx),fun b o e n hx=>by rw[ah (neD e)];exact u0.free b o (up b o e) n (nx e hx),
    fun b o e hx=>u0.there b o (up b o e) (nx e hx),fun b xs e=>by rw[ah (neT e)];exact u0.tups b xs e,fun b o xs e=>by rw[ah (neT e)];exact u0.mq b o xs e,fun b ps e=>by rw[ah (neT e)];exact u0.tbls b ps e⟩
  have hok:HOk X.prog X.w (upd H3 D (.lst ys)) s4.heap:=fun b u e=>by
   by_cases hb:b=D
   ·subst hb;rw[ar] at e;cases e;exact⟨Nat.le_of_lt hsz,us,us.length,rv,pD⟩
   ·rw[ah hb] at e;refine(I4.hok b u e).tu (fun c v _ q=>q) (fun c q=>?_) fun c xs q=>?_
    ·rw[ah (fun z=>by rw[z] at q;rw[show H3 D=none from pH] at q;cases q)];exact q
    ·rw[ah (fun z=>by rw[z] at q;rw[show H3 D=none from pH] at q;cases q)];exact q
  have I5:Inv X pins σ (upd H3 D (.lst ys)) s4:=I2.JJ I4.os un hok I4.bare fun b hb=>⟨(f2 b hb).2.2.2.1,(f2 b hb).2.1,(f2 b hb).2.2.2.2.1,(f2 b hb).2.2.2.2.2⟩;refine hRR D C s4 _ I5 ⟨mC',hnC⟩ ?_ (qn D pH);have hC2:s2.heap.objs.size<=C:=by rw[hDe,<- hCe,hCs];exact Nat.le_succ _
  refine I2.qu hC2 ?_;rw[ah (Ne.symm hDC)];exact I4.free
 exact pC hcl loop (wpAny_mono (T.self X.A 0 _ _ (fun _ _=>False) (T.keep _ _ _ st2 (fun b _ o e=>old b o (up b o e))) loop) (fun _ _ h=>h) fun _ _ h=>h.elim)
def Aj (fr:On) (wi:TI) (g:TG) (t:TB):TE:=fun σ H Q=>wi σ H fun J H1=>z9 J g t [] (lP fr σ) H1 fun ys _ H'=>ys.length < sizeLine/\∀ l,H' l=none->Q (.ref l) (upd H' l (.lst ys))
theorem EH {elt iter tg:Expr} {ifs:List Expr} {rest:List Comprehension} {sc:Scope} {pos p0:Pos} {Nc:Ls0} {fr:On} {wi:TI} {g:TG} {m:Addr->Env->Sem Fin->Sem Fin} {t:TB} (hc:X.calm=true) (hi:PI X tg iter wi) (B:Blk X.N X.env.scope sc Nc fr)
  (hg:∀ s₀ H₀ C ex pn,PG (br X sc Nc s₀ H₀ C ex pn) tg g) (hm:∀ s₀ H₀ C ex pn D,PB (br X sc Nc s₀ H₀ C ex pn) D (m D (br X sc Nc s₀ H₀ C ex pn).env) t)
  (hturn:∀ (it D:Addr) (env:Env),compTurn (.ListComp elt (⟨tg,iter,ifs,0⟩::rest) sc pos) 0 (.ref it) (.ref D) env=(standAt p0 >>= fun _=>pyNext (.ref it) >>= fun r=>match r with
   | none=>pure (.done .next)
   | some v=>letOwnedTupleGo tg (.ref it) v >>= fun _=>assign tg env v >>= fun _=>m D env (again (.compLoop (.ListComp elt (⟨tg,iter,ifs,0⟩::rest) sc pos) 0 (.ref it) (.ref D) env)))) (hs:autoParam (∀ x,foldedSetIterable iter X.env x=pure x) j0) :
  PE X (.ListComp elt (⟨tg,iter,ifs,0⟩::rest) sc pos) (Aj fr wi g t):=by
 intro pins s σ H Q I h;rw[eval_ListComp];refine wpAny_comprehension_free (use:=none) rfl hs (yp B I) B.kind B.locs (thn (hi pins s σ H _ I h) fun v s1 h1=>thn h1 fun itv s2 h2=>?_);obtain⟨it,fp,tn,J,H2,e,I2,T,st2,f2,cw⟩:=h2;subst e;refine zU (RR:=fun acc C=>compPost (model X.prog X.w) X.A X.xe none (EP X pins σ Q) acc C) rfl B hc hg hm hturn I2 T st2 f2 cw fun D C s' H' I' hn fC q=>?_;obtain⟨m,hn⟩:=hn;exact⟨m,hn,fun h' sb=>⟨.ref D,H',I'.turned (t':=s'.toks) (fun b o hb e=>(sb.2 b hb).trans e) fC.1 fC.2.1 fC.2.2.2.1 fC.2.2.2.2.1 fC.2.2.2.2.2,rfl,q⟩⟩
end
end L2
namespace L3
open PySem L2 PySem.Spec
abbrev pY:=List D->G->(List D->G->Prop)->Prop
def PoL (K:Fg0) (B:Bs) (F:Hp) (Q:List D->G->Prop):List V->L2.St->Hp->Prop:=fun ys' σ' H'=>∃ F' Γ' ds',aB F F'/\En K B F' σ' H' Γ'/\aD K F' ds' ys'/\Q ds' Γ'
def uZ (K:Fg0) (t:TB) (b3:pY):Prop:=∀ (B:Bs) (F:Hp) (σ:L2.St) (H:Hp) (Γ:G) (ys:List V) (ds:List D) (Q:List D->G->Prop) (QQ:List V->L2.St->Hp->Prop),En K B F σ H Γ->aD K F ds ys->b3 ds Γ Q->(∀ ys' σ' H',PoL K B F Q ys' σ' H'->QQ ys' σ' H')->t ys σ H QQ
def wA (e3:TE3) (ys:List D) (Γ:G) (Q:List D->G->Prop):Prop:=ys.length < sizeLine/\e3 Γ fun r Γ1=>Q (ys++[r.d]) Γ1
def Gs (c3:TT3) (b3:pY) (ys:List D) (Γ:G) (Q:List D->G->Prop):Prop:=c3 Γ fun b Γ1=>match b with
 | true=>b3 ys Γ1 Q
 | false=>Q ys Γ1
def BZ (xs:List D) (g3:TG3) (b3:pY) (ys:List D) (Γ:G) (Q:List D->G->Prop):Prop:=∃ Iv:Nat->List D->G->Prop,Iv 0 ys Γ/\(∀ k d ys Γ,xs[k]?=some d->Iv k ys Γ->g3 d Γ fun Γ'=>b3 ys Γ' (Iv (k + 1)))/\∀ ys Γ,Iv xs.length ys Γ->Q ys Γ
def vM (i3:TI3) (g3:TG3) (b3:pY) (ys:List D) (Γ:G) (Q:List D->G->Prop):Prop:=i3 Γ fun xs Γ1=>BZ xs g3 b3 ys Γ1 Q
def yn (fr:On) (i3:TI3) (g3:TG3) (b3:pY) (Γ:G) (Q:RV->G->Prop):Prop:=i3 Γ fun xs Γ1=>BZ xs g3 b3 [] (dG Γ1 (dh fr)) fun ys Γc=>ys.length < sizeLine/\Q (.fr (.lst ys)) (bJ fr Γ1 Γc)
section
variable {K:Fg0} {X Y:Cx} {Da:Addr} {pos p0:Pos}
theorem Eh {te:TE} {e3:TE3} (h:Ref K te e3):uZ K (GB te) (wA e3):=by
 intro B F σ H Γ ys ds Q QQ e r ⟨hz,q⟩ k;refine⟨by rw[r.length];exact hz,h B F σ H Γ _ _ e q fun v H' ⟨F',Γ',rv,s,e',rr,q'⟩=>k _ _ _ ?_⟩;obtain⟨F2,s2,e2,r2⟩:=e'.frozen rr;exact⟨F2,Γ',ds++[rv.d],s.trans s2,e2,aD.append (ys:=[rv.d]) (r.mono (s.trans s2)) ⟨v,[],rfl,r2,rfl⟩,q'⟩
theorem Nw {tc:TT} {c3:TT3} {t:TB} {b3:pY} (hc:rX K tc c3) (h:uZ K t b3):uZ K (bIf tc t) (Gs c3 b3):=by
 intro B F σ H Γ ys ds Q QQ e r q k;refine hc B F σ H Γ _ _ e q fun b H' Z=>?_;obtain⟨F',Γ',s,e',q'⟩:=Z;cases b with
 | true=>exact Dq (h B F' σ H' Γ' ys ds Q QQ e' (r.mono s) q' fun ys' σ' H2 ⟨F2,Γ2,d2,s2,rest⟩=>k _ _ _ ⟨F2,Γ2,d2,s.trans s2,rest⟩)
 | false=>exact Dr (k _ _ _ ⟨F',Γ',ds,s,e',r.mono s,q'⟩)
theorem yX {J:It} {xs:List D} {g:TG} {g3:TG3} {t:TB} {b3:pY} (hg:DL K g g3) (h:uZ K t b3) {B:Bs} {F:Hp} {σ:L2.St} {H:Hp} {Γ:G} {ys:List V} {ds:List D} {Q:List D->G->Prop} {QQ:List V->L2.St->Hp->Prop}
  (R:ItR K F J xs) (e:En K B F σ H Γ) (r:aD K F ds ys) (q:BZ xs g3 b3 ds Γ Q) (k:∀ ys' σ' H',PoL K B F Q ys' σ' H'->QQ ys' σ' H'):z9 J g t ys σ H QQ:=by
 obtain⟨Iv,i0,it,ie⟩:=q;refine⟨fun i m ys σ H=>m=xs.length - i/\i<=xs.length/\∃ F' Γ' ds,aB F F'/\En K B F' σ H Γ'/\aD K F' ds ys/\Iv i ds Γ',⟨_,rfl,Nat.zero_le _,F,Γ,ds,aB.refl F,e,r,i0⟩,?_⟩;rintro i m ys2 σ2 H2 ⟨rfl,hi,F2,Γ2,ds2,s2,e2,r2,iv⟩;by_cases lt:i < xs.length
 ·refine .inr ⟨R.go i H2 (s2.trans e2.sub) lt,fun x H3 y=>?_⟩;have hd:xs[i]?=some xs[i]:=gE0 lt;obtain⟨F3,s3,e3,r3⟩:=R.turn s2 e2 hd y;refine hg B F3 σ2 H3 Γ2 x _ _ _ e3 r3 (it i _ ds2 Γ2 hd iv) fun σ' Γ' e4 q4=>?_;exact h B F3 σ' H3 Γ' ys2 ds2 _ _ e4 (r2.mono s3) q4 fun ys' σ'' H4 ⟨F4,Γ4,d4,s4,e5,r5,iv5⟩=>⟨xs.length - (i + 1),by omega,rfl,lt,F4,Γ4,d4,(s2.trans s3).trans s4,e5,r5,iv5⟩
 ·have z:i=xs.length:=by omega
  subst z;exact .inl ⟨R.stop _ H2 (s2.trans e2.sub) rfl,k _ _ _ ⟨F2,Γ2,ds2,s2,e2,r2,ie ds2 Γ2 iv⟩⟩
theorem Ef {wi:TI} {i3:TI3} {g:TG} {g3:TG3} {t:TB} {b3:pY} (hi:GD K wi i3) (hg:DL K g g3) (h:uZ K t b3):uZ K (Gy wi g t) (vM i3 g3 b3):=by
 intro B F σ H Γ ys ds Q QQ e r q k;refine hi B F σ H Γ _ _ e q fun J H1 F1 Γ1 xs s1 e1 R q1=>?_;exact yX hg h R e1 (r.mono s1) q1 fun ys' σ' H2 ⟨F2,Γ2,d2,s2,rest⟩=>k _ _ _ ⟨F2,Γ2,d2,s1.trans s2,rest⟩
theorem CW {fr:On} {wi:TI} {i3:TI3} {g:TG} {g3:TG3} {t:TB} {b3:pY} (nd:(fr.filterMap id).Nodup) (hi:GD K wi i3) (hg:DL K g g3) (h:uZ K t b3):Ref K (Aj fr wi g t) (yn fr i3 g3 b3):=by
 intro B F σ H Γ Q QQ e q k;refine hi B F σ H Γ _ _ e q fun J H1 F1 Γ1 xs s1 e1 R q1=>?_;refine yX hg h R (e1.blk nd) (ds:=[]) rfl q1 fun ys σ' H2 ⟨F2,Γ2,d2,s2,e2,r2,hz,q2⟩=>⟨by rw[r2.length];exact hz,fun l hl'=>k _ _ ?_⟩;have eo:En K B F2 σ H2 (bJ fr Γ1 Γ2):=e1.back (ls:=fr) e2 (by have:=ou (Γ:=Γ1) (σ:=σ) (bs:=dh fr);rw[uk] at this;exact this);exact Po.mono (s1.trans s2) (jH eo hl' r2 q2)
theorem ES {elt i0 t0 i1 t1:Expr} {sc:Scope} {Nc:Ls0} {fr:On} {wi:TI} {i3:TI3} {g:TG} {g3:TG3} {wi1:TI} {j3:TI3} {g1:TG} {h3:TG3} {te:TE} {e3:TE3} (hc:X.calm=true) (hi:P3I K X t0 i0 wi i3) (Bk:Blk X.N X.env.scope sc Nc fr)
  (hg:∀ s₀ H₀ C ex pn,P3G K (br X sc Nc s₀ H₀ C ex pn) t0 g g3) (hj:∀ s₀ H₀ C ex pn,P3I K (br X sc Nc s₀ H₀ C ex pn) t1 i1 wi1 j3) (hh:∀ s₀ H₀ C ex pn,P3G K (br X sc Nc s₀ H₀ C ex pn) t1 g1 h3)
  (he:∀ s₀ H₀ C ex pn,P3 K (br X sc Nc s₀ H₀ C ex pn) elt te e3) (hs1:∀ s₀ H₀ C ex pn x,foldedSetIterable i1 (br X sc Nc s₀ H₀ C ex pn).env x=pure x:=by intros;rfl) (nd:autoParam ((fr.filterMap id).Nodup) d0) (hs:autoParam (∀ x,foldedSetIterable i0 X.env x=pure x) j0) :
  P3 K X (.ListComp elt [⟨t0,i0,[],0⟩,⟨t1,i1,[],0⟩] sc pos) (Aj fr wi g (Gy wi1 g1 (GB te))) (yn fr i3 g3 (vM j3 h3 (wA e3))):=
 ⟨EH (m:=fun D env=>IX elt [⟨t0,i0,[],0⟩,⟨t1,i1,[],0⟩] sc pos 1 i1 D env) hc hi.pe Bk (fun a b c d e=>(hg a b c d e).pe)
  (fun a b c d e D=>Hw (m:=JD elt D _) rfl hc (by rfl) (hj a b c d e).pe (hh a b c d e).pe (Hx rfl (he a b c d e).pe) (fun _=>rfl) (hs1 a b c d e)) (fun _ _ _=>rfl) hs,
  CW nd hi.rf (hg X.s₀ X.H₀ 0 [] []).rf (Ef (hj X.s₀ X.H₀ 0 [] []).rf (hh X.s₀ X.H₀ 0 [] []).rf (Eh (he X.s₀ X.H₀ 0 [] []).rf))⟩
end
theorem Co {n:Nat} {a b:Int}:eqN n (.int a) (.int b)=some (a == b):=by cases n <;> rfl
theorem zO {n:Nat} {a b:Str}:eqN n (.str a) (.str b)=some (a == b):=by cases n <;> rfl
theorem Cp {n:Nat} {a b:Bool}:eqN n (.bl a) (.bl b)=some (a == b):=by cases n <;> rfl
noncomputable def fo (s:Option D):Option Sl:=s.map Sl.fz
theorem uy {s:Option Sl} {Γ:G} {i:Nat}:bI (s::Γ) (i + 1)=bI Γ i:=rfl
theorem x8 {Γ:G}:bI (none::Γ) 0=True:=rfl
theorem x4 {d:D} {Γ:G}:bI (some (.fz d)::Γ) 0=True:=rfl
theorem x5 {d:D} {Γ:G}:bI (some (.ow d)::Γ) 0=True:=rfl
theorem uz {s:Option D} {Γ:G}:bI (fo s::Γ) 0=True:=by cases s <;> rfl
end L3
universe u
namespace L3
open PySem L2 PySem.Spec
structure Tag {α:Sort u} (q:α):Type where
def m1 (o:Option D) (k:D->Prop) (_:Tag k):Prop:=match o with
 | some d=>k d
 | none=>False
theorem l9 {d:D} {k:D->Prop} {t:Tag k}:m1 (some d) k t=k d:=rfl
theorem b8 {o:Option D} {k:D->Prop} {t:Tag k}:m1 o k t↔∃ d,o=some d/\k d:=by
 cases o with
 | none=>exact⟨fun h=>h.elim,fun Z=>by obtain⟨_,h,_⟩:=Z;cases h⟩
 | some d=>exact⟨fun h=>⟨d,rfl,h⟩,fun Z=>by obtain⟨_,h,q⟩:=Z;cases h;exact q⟩
def JI (fr:On) (i3:TI3) (g3:TG3) (e3:TE3) (Γ:G) (Q:RV->G->Prop) (_:Tag (fr,i3,g3,e3)) (_:Tag Q):Prop:=zV fr i3 g3 e3 Γ Q
def Lf (i3:TI3) (g3:TG3) (b3:TS3) (D:E3) (Γ:G) (_:Tag (i3,g3,b3)) (_:Tag D):Prop:=Lg i3 g3 b3 D Γ
def FU (fr:On) (i3:TI3) (g3:TG3) (b3:pY) (Γ:G) (Q:RV->G->Prop) (_:Tag (fr,i3,g3,b3)) (_:Tag Q):Prop:=yn fr i3 g3 b3 Γ Q
theorem pE {fr:On} {i3:TI3} {g3:TG3} {b3:pY} {Γ:G} {Q:RV->G->Prop}:yn fr i3 g3 b3 Γ Q=FU fr i3 g3 b3 Γ Q ⟨⟩ ⟨⟩:=rfl
theorem sP {fr:On} {i3:TI3} {g3:TG3} {e3:TE3} {Γ:G} {Q:RV->G->Prop}:zV fr i3 g3 e3 Γ Q=JI fr i3 g3 e3 Γ Q ⟨⟩ ⟨⟩:=rfl
theorem x_ {i3:TI3} {g3:TG3} {b3:TS3} {D:E3} {Γ:G}:Lg i3 g3 b3 D Γ=Lf i3 g3 b3 D Γ ⟨⟩ ⟨⟩:=rfl
section
variable {op:D->D->TE3} {a3 b3:TB3} {Γ:G} {Q:RV->G->Prop}
theorem p5:nk op a3 b3 Γ Q=(a3 Γ fun x Γ1=>b3 Γ1 fun y Γ2=>m1 (x.at Γ2) (fun dx=>m1 (y.at Γ2) (fun dy=>op dx dy Γ2 Q) ⟨⟩) ⟨⟩):=by
 unfold nk
 congr;funext x Γ1;congr;funext y Γ2
 refine propext ⟨fun Z=>by obtain⟨dx,dy,h1,h2,h3⟩:=Z;rw[h1,h2];exact h3,fun h=>?_⟩;obtain⟨dx,h1,h⟩:=b8.mp h;obtain⟨dy,h2,h⟩:=b8.mp h;exact⟨dx,dy,h1,h2,h⟩
theorem wQ {op:D->TE3}:DY op a3 Γ Q=(a3 Γ fun x Γ1=>m1 (x.at Γ1) (fun dx=>op dx Γ1 Q) ⟨⟩):=by
 unfold DY
 congr;funext x Γ1
 exact propext b8.symm
theorem zu {xs:List D} {i:Int}:ix3 (.lst xs) (.int i) Γ Q=m1 (atI xs i) (fun d=>Q (.fz d) Γ) ⟨⟩:=propext b8.symm
theorem B6 {xs:List D} {i:Int}:ix3 (.tup xs) (.int i) Γ Q=m1 (atI xs i) (fun d=>Q (.fz d) Γ) ⟨⟩:=propext b8.symm
def mL (o:Option (List D)) (k:List D->Prop) (_:Tag k):Prop:=match o with
 | some d=>k d
 | none=>False
theorem oN {d:List D} {k:List D->Prop} {t:Tag k}:mL (some d) k t=k d:=rfl
theorem pI {c3:List D->TE3} {t3:eA}:zZ c3 t3 Γ Q=(t3 Γ fun bs Γ1=>mL (ats Γ1 bs) (fun ds=>c3 ds Γ1 Q) ⟨⟩):=by
 unfold zZ
 congr;funext bs Γ1
 refine propext ⟨fun Z=>by obtain⟨ds,h,q⟩:=Z;rw[h];exact q,fun h=>?_⟩;cases e:ats Γ1 bs with
 | none=>rw[e] at h;exact h.elim
 | some ds=>rw[e] at h;exact⟨ds,rfl,h⟩
def mN (o:Option Nat) (k:Nat->Prop) (_:Tag k):Prop:=match o with
 | some d=>k d
 | none=>False
theorem sA {d:Nat} {k:Nat->Prop} {t:Tag k}:mN (some d) k t=k d:=rfl
def mI (o:Option D) (k:Int->Prop) (_:Tag k):Prop:=match o with
 | some (.int d)=>k d
 | _=>False
theorem sC {d:Int} {k:Int->Prop} {t:Tag k}:mI (some (.int d)) k t=k d:=rfl
theorem sd {i:Nat} {k3:TB3} {e3:TE3} {D:E3}:BE i k3 e3 D Γ=(e3 Γ fun r Γ1=>(∃ xs,c_ Γ1 i=some xs)/\k3 Γ1 fun b Γ2=>mL (c_ Γ2 i) (fun xs=>mI (b.at Γ2) (fun k=>mN (ixN xs.length k) (fun j=>D.nx (putD Γ2 i (.lst (xs.set j r.d)))) ⟨⟩) ⟨⟩) ⟨⟩):=by
 unfold BE
 congr;funext r Γ1;congr;funext b Γ2
 refine propext ⟨fun ⟨xs,k,j,h1,h2,h3,q⟩=>?_,fun h=>?_⟩
 ·rw[h1,h2];show mN (ixN xs.length k) _ ⟨⟩;rw[h3];exact q
 ·cases e:c_ Γ2 i with
  | none=>rw[e] at h;exact h.elim
  | some xs=>
   rw[e] at h;replace h:mI (b.at Γ2) (fun k=>mN (ixN xs.length k) (fun j=>D.nx (putD Γ2 i (.lst (xs.set j r.d)))) ⟨⟩) ⟨⟩:=h;cases e2:b.at Γ2 with
   | none=>rw[e2] at h;exact h.elim
   | some d=>
    rw[e2] at h;cases d with
    | int k=>
     replace h:mN (ixN xs.length k) (fun j=>D.nx (putD Γ2 i (.lst (xs.set j r.d)))) ⟨⟩:=h;cases e3:ixN xs.length k with
     | none=>rw[e3] at h;exact h.elim
     | some j=>rw[e3] at h;exact⟨xs,k,j,rfl,rfl,e3,h⟩
    | _=>exact h.elim
end
section
variable {K:Fg0} {B:Bs} {F:Hp} {σ:L2.St} {H:Hp} {Γ:G}
theorem zJ {α:Type} {l:List α} {a b:α} {i:Nat} (h:(l++[a])[i]?=some b):l[i]?=some b\/(i=l.length/\b=a):=by
 rcases Nat.lt_or_ge i l.length with q | q
 ·rw[List.getElem?_append_left q] at h;exact .inl h
 ·have q2:i=l.length:=by
   have:=(gS0 h).1;rw[List.length_append,List.length_singleton] at this;omega
  subst q2;rw[List.getElem?_append_right (Nat.le_refl _),Nat.sub_self] at h;exact .inr ⟨rfl,(Option.some.inj h).symm⟩
theorem gQ {α:Type} {l:List α} {a b:α} {i:Nat} (h:l[i]?=some b):(l++[a])[i]?=some b:=by
 rw[List.getElem?_append_left (gS0 h).1];exact h
theorem kZ {α:Type} {l:List α} {a:α}:(l++[a])[l.length]?=some a:=by
 rw[List.getElem?_append_right (Nat.le_refl _),Nat.sub_self];rfl
theorem En.push (e:En K B F σ H Γ) {x:Addr} {d:D} (rv:mE K B F σ H Γ (.ref x) (.fr d)):En K B F (σ++[some (V.ref x)]) H (Γ++[some (Sl.ow d)]):=by
 obtain⟨p,e1,hF,ho,hB,hn⟩:=rv;cases e1;have hl:=e.len;have hG:∀ {i:Nat} {s:Sl},(Γ++[some (Sl.ow d)])[i]?=some (some s)->Γ[i]?=some (some s)\/(i=Γ.length/\s=.ow d):=fun h=>by
  rcases zJ h with q | ⟨q,q2⟩
  ·exact .inl q
  ·cases q2;exact .inr ⟨q,rfl⟩
 have hS:∀ {i:Nat} {s:Option Sl},Γ[i]?=some s->(σ++[some (V.ref x)])[i]?=σ[i]?:=fun h=>by
  have lt:=(gS0 h).1;rw[List.getElem?_append_left (by omega)]
 have hat:(σ++[some (V.ref x)])[Γ.length]?=some (some (V.ref x)):=by rw[<- hl];exact kZ
 have hH:∀ {i:Nat} {c:D},Hld (Γ++[some (Sl.ow d)]) i c->Hld Γ i c\/(i=Γ.length/\c=d):=fun h=>by
  rcases h with h | h
  ·rcases hG h with q | ⟨q,q2⟩
   ·exact .inl (.inl q)
   ·cases q2;exact .inr ⟨q,rfl⟩
  ·rcases hG h with q | ⟨q,q2⟩
   ·exact .inl (.inr q)
   ·cases q2
 have hHS:∀ {i:Nat} {c:D},Hld Γ i c->(σ++[some (V.ref x)])[i]?=σ[i]?:=fun h=>by
  rcases h with h | h <;> exact hS h
 refine⟨e.sub,by simp [hl],?_,?_,?_,?_,?_,?_,e.keep,e.new,e.rest,e.dom⟩
 ·intro i c h;rcases hG h with q | ⟨_,q⟩
  ·rw[hS q];exact e.fz i c q
  ·cases q
 ·intro i c h;rcases hH h with q | ⟨rfl,rfl⟩
  ·rw[hHS q];exact e.hl i c q
  ·exact⟨x,hat,hF,ho⟩
 ·intro i c q h a;rcases hG h with z | ⟨rfl,z⟩
  ·rw[hS z] at a;exact e.ow i c q z a
  ·rw[hat] at a;cases a;exact hB
 ·intro i c q h a;rcases hG h with z | ⟨_,z⟩
  ·rw[hS z] at a;exact e.ln i c q z a
  ·cases z
 ·intro i j c c' q h h' a a';rcases hH h with z | ⟨rfl,rfl⟩
  ·rw[hHS z] at a;rcases hH h' with z' | ⟨rfl,rfl⟩
   ·rw[hHS z'] at a';exact e.dis i j c c' q z z' a a'
   ·rw[hat] at a';cases a';exact absurd a (hn i c z)
  ·rw[hat] at a;cases a;rcases hH h' with z' | ⟨rfl,rfl⟩
   ·rw[hHS z'] at a';exact absurd a' (hn j c' z')
   ·rfl
 ·intro i q h;obtain⟨a,c,b⟩:=e.par i q h;exact⟨by rw[hS b];exact a,c,gQ b⟩
theorem En.pop {x:Addr} {d:D} (e:En K B F (σ++[some (V.ref x)]) H (Γ++[some (Sl.ow d)])):En K B F σ H Γ/\mE K B F σ H Γ (.ref x) (.fr d):=by
 have hl:σ.length=Γ.length:=by have:=e.len;simpa using this
 have hat:(σ++[some (V.ref x)])[Γ.length]?=some (some (V.ref x)):=by rw[<- hl];exact kZ
 have hS:∀ {i:Nat} {s:Option Sl},Γ[i]?=some s->(σ++[some (V.ref x)])[i]?=σ[i]?:=fun h=>by
  have lt:=(gS0 h).1;rw[List.getElem?_append_left (by omega)]
 have hL:Hld (Γ++[some (Sl.ow d)]) Γ.length d:=.inl kZ;have up:∀ {i:Nat} {c:D},Hld Γ i c->Hld (Γ++[some (Sl.ow d)]) i c:=fun h=>h.imp gQ gQ;have hHS:∀ {i:Nat} {c:D},Hld Γ i c->(σ++[some (V.ref x)])[i]?=σ[i]?:=fun h=>by
  rcases h with h | h <;> exact hS h
 obtain⟨p,a,b,c⟩:=e.hl _ _ hL;rw[hat] at a;cases a;refine⟨⟨e.sub,hl,?_,?_,?_,?_,?_,?_,e.keep,e.new,e.rest,e.dom⟩,x,rfl,b,c,e.ow _ _ _ kZ hat,?_⟩
 ·intro i c h;have:=e.fz i c (gQ h)
  rwa [hS h] at this
 ·intro i c h;have:=e.hl i c (up h)
  rwa [hHS h] at this
 ·intro i c q h a;exact e.ow i c q (gQ h) (by rw[hS h];exact a)
 ·intro i c q h a;exact e.ln i c q (gQ h) (by rw[hS h];exact a)
 ·intro i j c c' q h h' a a';exact e.dis i j c c' q (up h) (up h') (by rw[hHS h];exact a) (by rw[hHS h'];exact a')
 ·intro i q h;obtain⟨a,c,b'⟩:=e.par i q h;rcases zJ b' with z | ⟨_,z⟩
  ·exact⟨by rw[<- hS z];exact a,c,z⟩
  ·cases z
 ·intro i c h q;have lt:i < Γ.length:=by rcases h with h | h <;> exact(gS0 h).1
  have:=e.dis i _ c d x (up h) hL (by rw[hHS h];exact q) hat
  omega
theorem En.NI (e:En K B F σ H Γ) {i:Nat} {d0 d1:D} (hh:Hld Γ i d0) {p:Addr} (hp:σ[i]?=some (some (V.ref p))) {o1:HO} (r:Own K F (upd H p o1) p d1):En K B F σ (upd H p o1) (putD Γ i d1):=by
 obtain⟨p0,a0,b0,c0⟩:=e.hl i _ hh;rw[hp] at a0;cases a0;obtain⟨o,ho⟩:=c0.some;have hput:(Γ[i]?=some (some (Sl.ow d0))/\putD Γ i d1=Γ.set i (some (.ow d1)))\/(Γ[i]?=some (some (Sl.ln d0))/\putD Γ i d1=Γ.set i (some (.ln d1))):=by
  rcases hh with q | q
  ·exact .inl ⟨q,by unfold putD;rw[q]⟩
  ·exact .inr ⟨q,by unfold putD;rw[q]⟩
 have il:i < Γ.length:=by rcases hput with ⟨q,_⟩ | ⟨q,_⟩ <;> exact(gS0 q).1
 have other:∀ {j:Nat},j≠i->(putD Γ i d1)[j]?=Γ[j]?:=fun z=>by
  rcases hput with ⟨_,q⟩ | ⟨_,q⟩ <;> rw[q,aC (Ne.symm z)]
 have same:∀ {s:Sl},(putD Γ i d1)[i]?=some (some s)->(s=.ow d1/\Γ[i]?=some (some (Sl.ow d0)))\/(s=.ln d1/\Γ[i]?=some (some (Sl.ln d0))):=fun {s} q=>by
  rcases hput with ⟨a,b⟩ | ⟨a,b⟩
  ·rw[b,aw il] at q;cases q;exact .inl ⟨rfl,a⟩
  ·rw[b,aw il] at q;cases q;exact .inr ⟨rfl,a⟩
 have hld:∀ {j x},Hld (putD Γ i d1) j x->(j=i/\x=d1)\/(j≠i/\Hld Γ j x):=fun {j x} q=>by
  by_cases z:j=i
  ·subst z
   left
   rcases q with q | q <;> rcases same q with ⟨h,_⟩ | ⟨h,_⟩ <;> cases h <;> exact⟨rfl,rfl⟩
  ·right;exact⟨z,by unfold Hld at q ⊢;rw[other z] at q;exact q⟩
 have hld':∀ {j x},Hld (putD Γ i d1) j x->∃ y,Hld Γ j y:=fun q=>by
  rcases hld q with ⟨rfl,_⟩ | ⟨_,q⟩
  ·exact⟨_,hh⟩
  ·exact⟨_,q⟩
 refine⟨?_,?_,?_,?_,?_,?_,?_,?_,e.keep,e.new,?_,?_⟩
 ·intro b u q;have z:b≠p:=fun z=>by subst z;rw[b0] at q;cases q
  rw[ah z];exact e.sub b u q
 ·rcases hput with ⟨_,q⟩ | ⟨_,q⟩ <;> rw[q,List.length_set] <;> exact e.len
 ·intro j d q;by_cases z:j=i
  ·subst z;rcases same q with ⟨h,_⟩ | ⟨h,_⟩ <;> cases h
  ·rw[other z] at q;exact e.fz j d q
 ·intro j d q;rcases hld q with ⟨rfl,rfl⟩ | ⟨z,q⟩
  ·exact⟨p,hp,b0,r⟩
  ·obtain⟨p',a,b,c⟩:=e.hl j d q;have ne:p'≠p:=fun y=>z (e.dis j i _ _ p q hh (y ▸ a) hp);exact⟨p',a,b,c.mono (aB.refl F) (ah ne)⟩
 ·intro j d p' q a;by_cases z:j=i
  ·subst z;rcases same q with ⟨h,g⟩ | ⟨h,g⟩
   ·exact e.ow j _ p' g a
   ·cases h
  ·rw[other z] at q;exact e.ow j d p' q a
 ·intro j d p' q a;by_cases z:j=i
  ·subst z;rcases same q with ⟨h,g⟩ | ⟨h,g⟩
   ·cases h
   ·exact e.ln j _ p' g a
  ·rw[other z] at q;exact e.ln j d p' q a
 ·intro j k d d' p' q1 q2;obtain⟨y1,h1⟩:=hld' q1;obtain⟨y2,h2⟩:=hld' q2;exact e.dis j k y1 y2 p' h1 h2
 ·intro j p' q;obtain⟨a,d,b⟩:=e.par j p' q;refine⟨a,?_⟩;by_cases z:j=i
  ·subst z;rcases hput with ⟨c,_⟩ | ⟨_,c⟩
   ·rw[b] at c;cases c
   ·exact⟨_,by rw[c,aw il]⟩
  ·exact⟨d,by rw[other z];exact b⟩
 ·intro b u q n;have z:b≠p:=fun z=>by
   subst z;rcases hh with g | g
   ·rw[e.ow i _ _ g hp] at q;cases q
   ·exact n i (e.ln i _ _ g hp)
  rw[ah z];exact e.rest b u q n
 ·intro b q;by_cases z:b=p
  ·subst z;rw[ar] at q;cases q
  ·rw[ah z] at q;exact e.dom b q
noncomputable def mS (Γ:G) (i:Nat):Option (Addr×Ls0×List D):=match Γ[i]? with
 | some (some (.ow (.ins C ns xs)))=>some (C,ns,xs)
 | some (some (.ln (.ins C ns xs)))=>some (C,ns,xs)
 | _=>none
theorem v9 {i:Nat} {C:Addr} {ns:Ls0} {xs:List D} (h:mS Γ i=some (C,ns,xs)):Hld Γ i (.ins C ns xs):=by
 unfold mS at h;split at h
 ·cases h;rename_i q;exact .inl q
 ·cases h;rename_i q;exact .inr q
 ·cases h
theorem y3 {f:Str} {v:V}:∀ {fs:List (Str×V)},f∉fs.map (·.1)->kM f v fs=fs++[(f,v)]
 | [],_=>rfl
 | (g,x)::r,h=>by
  simp only[List.map_cons,List.mem_cons,not_or] at h;show (if g=f then _ else _)=_;rw[if_neg (Ne.symm h.1),y3 h.2];rfl
theorem aD.snoc {xs:List D} {vs:List V} (r:aD K F xs vs) {d:D} {v:V} (q:Rep K F d v):aD K F (xs++[d]) (vs++[v]):=r.append ⟨v,[],rfl,q,rfl⟩
def oI (o:Option (Addr×Ls0×List D)) (k:Addr->Ls0->List D->Prop):Prop:=match o with
 | some (C,ns,xs)=>k C ns xs
 | none=>False
def D7 (C0:Addr) (i:Nat) (f:Str) (e3:TE3) (D:E3) (Γ:G):Prop:=e3 Γ fun r Γ1=>oI (mS Γ1 i) fun C ns xs=>C=C0/\(f∉ns/\ns.length < 1000)/\D.nx (putD Γ1 i (.ins C (ns++[f]) (xs++[r.d])))
variable {X:Cx} {e:Expr} {te:TE} {e3:TE3} {pos:Pos}
theorem Ee {C0:Addr} {i:Nat} {f:Str} (hC:Cls K C0) (hn:ez K C0 f) (h:Ref K te e3):II K (Kb K (cH i) te f) (D7 C0 i f e3):=by
 intro B F σ H Γ D D3 en k q;refine h B F σ H Γ _ _ en q fun v H1 Z=>?_;obtain⟨F1,Γ1,r,s1,e1,rv,q1⟩:=Z;obtain⟨F2,s2,e2,rp⟩:=e1.frozen rv;have q2:oI (mS Γ1 i) fun C ns xs=>C=C0/\(f∉ns/\ns.length < 1000)/\D3.nx (putD Γ1 i (.ins C (ns++[f]) (xs++[r.d]))):=q1;cases w:mS Γ1 i with
 | none=>rw[w] at q2;exact q2.elim
 | some t=>
  obtain⟨C,ns,xs⟩:=t;rw[w] at q2;obtain⟨rfl,⟨hf,hl⟩,q2⟩:=q2;obtain⟨p,a,b,dx,gs,c1,c2,c3⟩:=e2.hl i _ (v9 w);refine⟨_,a,p,C,dx,gs,rfl,c1,hC,hn,?_,?_⟩
  ·have:=congrArg List.length c2;rw[lM0] at this;omega
  ·have hf':f∉gs.map (·.1):=by rw[c2];exact hf
   rw[y3 hf'];have ow:Own K F2 (upd H1 p (.ins C dx (gs++[(f,v)]))) p (.ins C (ns++[f]) (xs++[r.d])):=⟨dx,gs++[(f,v)],ar,by rw[List.map_append,c2];rfl,by rw[List.map_append];exact c3.snoc rp⟩;exact k.nx F2 σ _ _ (s1.trans s2) (e2.NI (v9 w) a ow) q2
theorem sj {C0:Addr} (i:Nat) {x f:Str} {px p2:Pos} (hK:X.K=K) (hC:Cls K C0) (hn:ez K C0 f) (hx:P3B K X (.Name x px) (cH i) (bor i)) (he:P3 K X e te e3) (hs:autoParam (swapsWith e (some (.Attribute (.Name x px) f p2)) pos.line X.env=pure false) r0) :
  P3S K X (.Assign [.Attribute (.Name x px) f p2] e pos) (Kb K (cH i) te f) (D7 C0 i f e3):=⟨by subst hK;exact Kp hx.pe he.pe hs,Ee hC hn he.rf⟩
end
section
variable {K:Fg0} {B:Bs} {F:Hp} {σ:L2.St} {H:Hp} {Γ:G} {X:Cx}
theorem a9.push {x:V}:∀ {bs:List Bo} {vs:List V},a9 K F σ bs vs->a9 K F (σ++[some x]) bs vs
 | [],_,h=>h
 | .d d::bs,_,⟨v,ws,h1,h2,h3⟩=>⟨v,ws,h1,h2,a9.push h3⟩
 | .v i::bs,_,⟨v,ws,h1,h2,h3⟩=>⟨v,ws,h1,gQ h2,a9.push h3⟩
theorem a9.ds:∀ {ds:List D} {vs:List V},aD K F ds vs->a9 K F σ (ds.map Bo.d) vs
 | [],_,h=>h
 | _::_,_,⟨v,ws,h1,h2,h3⟩=>⟨v,ws,h1,h2,a9.ds h3⟩
theorem zt:∀ ds:List D,bQ (ds.map Bo.d)=[]
 | []=>rfl
 | _::ds=>zt ds
theorem ID (ds:List D) (Γ:G):dG Γ ((ds.map Bo.d).map some)=ds.map fun d=>some (Sl.fz d):=by
 unfold dG;rw[List.map_map,List.map_map];rfl
theorem BV {cs:G} {j:Nat}:∀ ds:List D,newD (((ds.map Bo.d).map some).map bW) cs j=none
 | []=>by cases cs <;> rfl
 | _::ds=>by
  cases cs with
  | nil=>rfl
  | cons c cs=>exact BV (cs:=cs) ds
def MY (Γa:G) (k:D->Prop):Prop:=match Γa with
 | some (.ln d)::_=>k d
 | _=>False
def Fd (C:Addr) (n:Nat) (S:S3) (t3:TA3) (Γ:G) (Q:RV->G->Prop):Prop:=t3 Γ fun ds Γ1=>ds.length + 1=n/\
 S (some (.ln (.ins C [] []))::ds.map fun d=>some (.fz d)) fun r Γa=>r=.fz .non/\MY Γa fun d=>Q (.fr d) Γ1
theorem Eg {C:Addr} {n:Nat} {S:S3} {E:XK} {t:TA} {t3:TA3} (h:Nr K t t3):Ref K (DX C (sp3 K n S) [] E t) (Fd C n S t3):=by
 intro B F σ H Γ Q QQ e q k;refine h B F σ H Γ _ _ e q fun vs H1 Z=>?_;obtain⟨F1,Γ1,ds,s1,e1,r1,hn,q1⟩:=Z;intro y dy hy hdy ne;rw[List.append_nil];have a1:=e1.alloc hdy (.own y);have hy':(upd H1 dy (.own y)) y=none:=by rw[ah (Ne.symm ne)];exact hy
 have e2:En K B F1 σ (upd (upd H1 dy (.own y)) y (.ins C dy [])) Γ1:=a1.alloc hy' _;have rv:mE K B F1 σ (upd (upd H1 dy (.own y)) y (.ins C dy [])) Γ1 (.ref y) (.fr (.ins C [] [])):=⟨y,rfl,a1.nof hy',⟨dy,[],ar,rfl,rfl⟩,e1.dom _ hy,a1.uc hy'⟩;have ep:=e2.push rv;have hl:σ.length=Γ1.length:=e1.len;have rb:a9 K F1 (σ++[some (V.ref y)]) (Bo.v Γ1.length::ds.map Bo.d) (.ref y::vs):=⟨_,_,rfl,by rw[<- hl];exact kZ,(a9.ds r1).push⟩;have nd:(bQ (Bo.v Γ1.length::ds.map Bo.d)).Nodup:=by
  show (Γ1.length::bQ (ds.map Bo.d)).Nodup;rw[zt];simp
 have eG:dG (Γ1++[some (Sl.ow (.ins C [] []))]) ((Bo.v Γ1.length::ds.map Bo.d).map some)=some (.ln (.ins C [] []))::ds.map fun d=>some (.fz d):=by
  rw[List.map_cons,<- ID ds (Γ1++[some (Sl.ow (.ins C [] []))])];show (some (Bo.v Γ1.length)).bind (qz _)::_=_
  congr 1
  show fV (Γ1++[some (Sl.ow (.ins C [] []))])[Γ1.length]?=_;rw[kZ];rfl
 have len:(V.ref y::vs).length=n:=by rw[<- hn,List.length_cons,r1.length]
 refine⟨len,F1,_,_,_,ep.args rb nd,pW,by rw[eG];exact q1,fun r Γa q2 v H' F' e3 rv'=>?_⟩;obtain⟨rfl,q2⟩:=q2;obtain⟨sm,eb,_⟩:=ep.called e3 rv';have ev:v=.non:=rv';cases Γa with
 | nil=>exact q2.elim
 | cons s Γr=>
  cases s with
  | none=>exact q2.elim
  | some s=>
   cases s with
   | fz d=>exact q2.elim
   | ow d=>exact q2.elim
   | ln d=>
    have q2:Q (.fr d) Γ1:=q2;have eq:bJ (((Bo.v Γ1.length::ds.map Bo.d).map some).map bW) (Γ1++[some (Sl.ow (.ins C [] []))]) (some (.ln d)::Γr)=Γ1++[some (Sl.ow d)]:=by
     refine List.ext_getElem? fun j=>?_;rw[dN];show Option.map (ka (if Γ1.length=j then some d else newD (((ds.map Bo.d).map some).map bW) Γr j)) _=_;by_cases hj:Γ1.length=j
     ·subst hj;rw[if_pos rfl,kZ,kZ];rfl
     ·rw[if_neg hj,BV];have:(Γ1++[some (Sl.ow d)])[j]?=(Γ1++[some (Sl.ow (.ins C [] []))])[j]?:=by
       rcases Nat.lt_or_ge j Γ1.length with z | z
       ·rw[List.getElem?_append_left z,List.getElem?_append_left z]
       ·rw[List.getElem?_eq_none (by simp;omega),List.getElem?_eq_none (by simp;omega)]
      rw[this];cases (Γ1++[some (Sl.ow (.ins C [] []))])[j]? with
      | none=>rfl
      | some s=>cases s with
       | none=>rfl
       | some s=>cases s <;> rfl
    rw[eq] at eb;obtain⟨e5,rv5⟩:=eb.pop;exact⟨ev,k _ _ ⟨F',Γ1,.fr d,s1.trans sm,e5,rv5,q2⟩⟩
end
section
variable {K:Fg0} {B:Bs} {F:Hp} {σ:L2.St} {H:Hp} {Γ:G} {X:Cx} {C f:Addr} {fd:FuncData} {ps:Ls0} {x m:Str} {k n:Nat} {S:S3} {p pos:Pos} {e:Expr} {es:List Expr} {t:TA} {t3:TA3} {te:TE} {e3:TE3}
theorem oq (M:Mk X.K C f) (F:aG X.prog X.w X.K X.mg X.base CX0 k f fd ps (sp3 K n S)) (hr:bN (k + 1) X.A) (hg:Gl X x) (hm:X.mg x=some (.ref C)) (hb:Binds X.K fd ps [])
  (ha:P3A K X (e::es) t t3) (hdb:autoParam ((x == ("__debug__":Str))=false) d0) (he:autoParam (starEach (e::es) X.env=(false,eval e X.env)::starEach es X.env) r0) (hpl:autoParam ((backTo pos (starEach es X.env)).any (·.1)=false) r0) :
  P3 K X (.Call (.Name x p) (e::es) [] pos) (DX C (sp3 K n S) [] E0 t) (Fd C n S t3):=⟨Hs M F hr hg hm hb .nil qE ha.pe hdb he hpl,Eg ha.rf⟩
end
section
variable {K:Fg0} {B:Bs} {F:Hp} {σ:L2.St} {H:Hp} {Γ:G} {X:Cx}
noncomputable def signs (z:Str):List D:=z.cps.toList.map fun c=>D.str (sgn c)
def oS (d:D) (k:Str->Prop):Prop:=match d with
 | .str z=>k z
 | _=>False
theorem Mm {d:D} {k:Str->Prop} (h:oS d k):∃ z,d=.str z/\k z:=by
 cases d <;> first | exact h.elim | exact⟨_,rfl,h⟩
noncomputable def asc (z:Str):Bool:=z.cps.all (· < 128)
def iS3 (a3:TE3) (Γ:G) (Q:List D->G->Prop):Prop:=a3 Γ fun r Γ1=>oS r.d fun z=>asc z=true/\Q (signs z) Γ1
theorem lX (z:Str):(signs z).length=z.cps.size:=by simp [signs]
theorem LM {z:Str}:ItR K F (Its z) (signs z):=by
 refine⟨fun i H' _ lt=>by rw[lX] at lt;exact lt,fun i H' _ e=>by rw[lX] at e;exact Nat.le_of_eq e.symm,fun i H' x H'' d _ hd y=>?_⟩;obtain⟨e1,c,hc,rfl⟩:=y;refine .inl ⟨e1,?_⟩;unfold signs at hd;rw[List.getElem?_map,Array.getElem?_toList,hc] at hd;cases hd;rfl
theorem Fq {tg l:Expr} {tl:TE} {l3:TE3} (h:P3 K X l tl l3):P3I K X tg l (MQ tl) (iS3 l3):=⟨Ku h.pe,fun B F σ H Γ Q R e q k=>
 h.rf B F σ H Γ _ _ e q fun v H' Z=>by
  obtain⟨F',Γ',r,s,e',rv,q'⟩:=Z;obtain⟨z,hz,ha,q'⟩:=Mm q';obtain⟨F2,s2,e2,r2⟩:=e'.frozen rv;rw[hz] at r2;exact⟨z,r2,ha,k _ H' F2 Γ' _ (s.trans s2) e2 LM q'⟩⟩
end
section
variable {K:Fg0} {B:Bs} {F:Hp} {σ:L2.St} {H:Hp} {Γ:G} {X:Cx} {a b o e f:Expr} {ta tb te tf to:TE} {a3 b3:TB3} {e3 f3:TE3} {pos apos cpos:Pos}
def qG (x y:D) (Γ:G) (Q:RV->G->Prop):Prop:=match x,y with
 | .str z,.int n=>(n=0\/n=1)/\z.length<=sizeLine/\Q (.fz (.str (if n=0 then Str.empty else z))) Γ
 | _,_=>False
theorem HQ:lS K El qG:=by
 intro B F σ H Γ x y dx dy Q QQ e rx ry q k;unfold qG at q;split at q
 ·obtain⟨h1,h2,q⟩:=q;cases rx;cases ry;exact⟨_,_,rfl,rfl,h1,h2,k _ _ (jG e q)⟩
 ·exact q.elim
theorem xm (ha:P3B K X a ta a3) (hb:P3B K X b tb b3):P3 K X (.BinOp a .Mult b pos) (tOp El ta tb) (nk qG a3 b3):=⟨qD HE ha.pe hb.pe,iM HQ ha.rf hb.rf⟩
noncomputable def dS:D->Bool
 | .str _=>true
 | _=>false
theorem Nb (T:TyS X.K):B3 K X (.builtin "isinstance") (fun xs H Q=>∃ x,xs=[x,.ty "str"]/\Kn H x/\Q (.bl (isS x)) H) (is3 "str" dS):=Gk (g:=fun _ v=>isS v) (F_ T) fun s h hk=>by
 rename_i F H d v;cases d <;> first
  | (cases h;rfl)
  | (cases hk;done)
  | (obtain⟨p,vs,rfl,_⟩:=h;rfl)
  | (obtain⟨p,rfl,_⟩:=h;rfl)
  | (obtain⟨p,dx,gs,rfl,_⟩:=h;rfl)
end
mutual
noncomputable def dt:D->PyData
 | .non=>.none
 | .bl b=>.bool b
 | .int i=>.int i
 | .str x=>.str x
 | .lst xs=>.list (dtL xs)
 | .tup xs=>.tuple (dtL xs)
 | .dct=>.dict []
 | .dcs k i=>.dict [(.str k,.int i)]
 | _=>.none
noncomputable def dtL:List D->List PyData
 | []=>[]
 | x::xs=>dt x::dtL xs
end
inductive Sh:Nat->Nat->D->Prop where
 | non:Sh 100 1 .non
 | bl (b:Bool):Sh 100 1 (.bl b)
 | int {i:Int} (h:i.natAbs < 10 ^ 60):Sh 100 1 (.int i)
 | str {x:Str} {n:Nat} (h:(PyData.shown (.str x)).length<=n):Sh n 1 (.str x)
 | dct:Sh 100 1 .dct
 | dcs {k:Str} {i:Int} {n:Nat} (h:i.natAbs < 10 ^ 60) (hn:(PyData.shown (.dict [(.str k,.int i)])).length<=n):Sh n 1 (.dcs k i)
 | lst {n k l:Nat} {xs:List D} (h:∀ x∈xs,Sh n k x) (hl:xs.length<=l):Sh (l * (n + 2) + 3) (k + 1) (.lst xs)
 | tup {n k l:Nat} {xs:List D} (h:∀ x∈xs,Sh n k x) (hl:xs.length<=l):Sh (l * (n + 2) + 3) (k + 1) (.tup xs)
 | up {n k n' k':Nat} {d:D} (h:Sh n k d) (h1:n<=n') (h2:k<=k'):Sh n' k' d
structure ShD (n k:Nat) (d:D):Prop where
 sh:(dt d).showable=true
 dp:(dt d).depth<=k
 ln:(dt d).shown.length<=n
 dt:∀ {K:Fg0} {F H:Hp} {v:V},aB F H->Rep K F d v->Dt K H v (dt d)
theorem HY {i:Int} (h:i.natAbs < 10 ^ 60):(PyData.shown (.int i)).length<=100:=by
 have e:=int_text_length_le10 (k:=60) (by decide) h;show (Str.ofString (toString i)).length<=100;rw[ofString_length];omega
theorem A6 {i:Int} (h:i.natAbs < 10 ^ 60):PyData.showable (.int i)=true:=by
 show decide (i.natAbs.log2 < 1920)=true;rw[decide_eq_true_eq];by_cases h0:i.natAbs=0
 ·rw[h0];decide
 ·rw[Nat.log2_lt h0];exact Nat.lt_of_lt_of_le (show i.natAbs < 2 ^ 200 from Nat.lt_trans h (by decide)) (Nat.pow_le_pow_right (by decide) (by decide))
theorem shL {n k:Nat}:∀ {xs:List D},(∀ x∈xs,ShD n k x)->PyData.showableAll (dtL xs)=true/\PyData.depthAll (dtL xs)<=k/\((PyData.shownAll (dtL xs)).map (·.length)).sum<=xs.length * n/\(PyData.shownAll (dtL xs)).length=xs.length/\
  ∀ {K:Fg0} {F H:Hp} {vs:List V},aB F H->aD K F xs vs->cW K H vs (dtL xs)
 | [],_=>⟨rfl,by simp [dtL,PyData.depthAll],by simp [dtL,PyData.shownAll],rfl,fun _ r=>by cases r;exact .nil⟩
 | x::xs,h=>by
  obtain⟨h1,h3,h4,h5,h6⟩:=shL (xs:=xs) fun y hy=>h y (List.mem_cons_of_mem _ hy);have e:=h x List.mem_cons_self;have e4:=e.ln;have e3:=e.dp;refine⟨?_,?_,?_,?_,fun s r=>?_⟩
  ·simp only[dtL,PyData.showableAll,e.sh,h1,Bool.and_self]
  ·simp only[dtL,PyData.depthAll];omega
  ·simp only[dtL,PyData.shownAll,List.map_cons,List.sum_cons,List.length_cons,Nat.add_mul,Nat.one_mul];omega
  ·simp only[dtL,PyData.shownAll,List.length_cons,h5]
  ·obtain⟨v,ws,rfl,r1,r2⟩:=r;exact .cons (e.dt s r1) (h6 s r2)
theorem Sh.spec {n k:Nat} {d:D} (h:Sh n k d):ShD n k d:=by
 induction h with
 | non=>exact⟨rfl,by simp [dt,PyData.depth],by decide,fun _ r=>by cases r;exact .non⟩
 | bl b=>exact⟨rfl,by simp [dt,PyData.depth],by cases b <;> decide,fun _ r=>by cases r;exact .bl b⟩
 | @int i h=>exact⟨A6 h,by simp [dt,PyData.depth],HY h,fun _ r=>by cases r;exact .int i⟩
 | @str x n h=>exact⟨rfl,by simp [dt,PyData.depth],h,fun _ r=>by cases r;exact .str x⟩
 | @lst n k l xs h hl ih=>
  obtain⟨h1,h3,h4,h5,h6⟩:=shL ih;refine⟨by simp only[dt,PyData.showable,h1],by simp only[dt,PyData.depth];omega,?_,fun s r=>?_⟩
  ·have e:=listText_len_le (PyData.shownAll (dtL xs));have e2:(PyData.shown (dt (.lst xs)))=listText (PyData.shownAll (dtL xs)):=by simp only[dt,PyData.shown]
   rw[e2];have e3:xs.length * n<=l * n:=Nat.mul_le_mul_right _ hl;have e4:l * (n + 2)=l * n + l * 2:=Nat.mul_add ..;omega
  ·obtain⟨p,vs,rfl,g,r⟩:=r;exact .lst (SqL.of (s _ _ g)) (h6 s r)
 | @tup n k l xs h hl ih=>
  obtain⟨h1,h3,h4,h5,h6⟩:=shL ih;refine⟨by simp only[dt,PyData.showable,h1],by simp only[dt,PyData.depth];omega,?_,fun s r=>?_⟩
  ·have e:=tupleText_len_le (PyData.shownAll (dtL xs));have e2:(PyData.shown (dt (.tup xs)))=tupleText (PyData.shownAll (dtL xs)):=by simp only[dt,PyData.shown]
   rw[e2];have e3:xs.length * n<=l * n:=Nat.mul_le_mul_right _ hl;have e4:l * (n + 2)=l * n + l * 2:=Nat.mul_add ..;omega
  ·obtain⟨p,vs,rfl,g,r⟩:=r;exact .tup (.inl (.inl (s _ _ g))) (h6 s r)
 | dct=>exact⟨rfl,by simp [dt,PyData.depth,PyData.depthKv],by decide,fun s r=>by obtain⟨p,rfl,h⟩:=r;exact .dct (s _ _ h)⟩
 | @dcs k i n h hn=>exact⟨by have:=A6 h;simp only[dt,PyData.showable,PyData.showableKv] at this ⊢;simpa using this,by simp [dt,PyData.depth,PyData.depthKv],hn,fun s r=>by obtain⟨p,rfl,h⟩:=r;exact .dcs k i (s _ _ h)⟩
 | up h h1 h2 ih=>exact⟨ih.sh,Nat.le_trans ih.dp h2,Nat.le_trans ih.ln h1,ih.dt⟩
noncomputable def CP:D->Bool
 | .lst _=>true
 | .tup _=>true
 | _=>false
noncomputable def shw (d:D):Str:=(dt d).shown
section
variable {K:Fg0} {B:Bs} {F:Hp} {σ:L2.St} {H:Hp} {Γ:G} {X:Cx}
theorem Sh.dtB {n k:Nat} {d:D} (h:Sh n k d) (hs:CP d=true) {v:V} (s:aB F H) (r:g6 K F H d v):∃ a,v=.ref a/\Dt K H v (dt d):=by
 cases d with
 | lst xs=>
  obtain⟨p,vs,rfl,g,r⟩:=r;refine⟨p,rfl,?_⟩;have go:∀ {n k:Nat} {d:D},Sh n k d->∀ xs,d=.lst xs->∀ x∈xs,∃ n k,Sh n k x:=by
   intro n k d h
   induction h with
   | lst h hl ih=>intro xs e x hx;cases e;exact⟨_,_,h x hx⟩
   | up h h1 h2 ih=>exact ih
   | _=>intro xs e;cases e
  have all:∀ {ys:List D} {ws:List V},(∀ x∈ys,∃ n k,Sh n k x)->aD K F ys ws->cW K H ws (dtL ys):=by
   intro ys
   induction ys with
   | nil=>intro ws _ r;cases r;exact .nil
   | cons y ys ih=>
    intro ws hh r;obtain⟨w,ws',rfl,r1,r2⟩:=r;obtain⟨n',k',hy⟩:=hh y List.mem_cons_self;exact .cons (hy.spec.dt s r1) (ih (fun z hz=>hh z (List.mem_cons_of_mem _ hz)) r2)
  exact .lst (SqL.of g) (all (go h xs rfl) r)
 | tup xs=>
  have r':Rep K F (.tup xs) v:=r;have q:=h.spec.dt s r';obtain⟨p,vs,rfl,_⟩:=r';exact⟨p,rfl,q⟩
 | _=>cases hs
end
section
variable {K:Fg0} {B:Bs} {F:Hp} {σ:L2.St} {H:Hp} {Γ:G} {X:Cx} {a o e f:Expr} {ta te tf:TE} {a3:TB3} {e3 f3:TE3} {pos apos cpos:Pos}
def we (C0:Addr) (f:Str) (x:D) (Γ:G) (Q:RV->G->Prop):Prop:=match x with
 | .ins C ns xs=>C=C0/\m1 ((ns.zip xs).lookup f) (fun d=>Q (.fz d) Γ) ⟨⟩
 | _=>False
theorem ff {f:Str} {C0:Addr} (hK:X.K=K) (ha:P3B K X a ta a3) (hC:Cls K C0) (hn:ez K C0 f) (hb:autoParam (attributeBase a f X.env (eval a X.env)=eval a X.env) r0) :
  P3 K X (.Attribute a f pos) (LK K ta f) (DY (we C0 f) a3):=⟨by subst hK;exact Kz ha.pe hb,Ed (r:=fun x H1 Q=>∃ a C dx fs v,x=.ref a/\H1 a=some (.ins C dx fs)/\Cls K C/\ez K C f/\fs.lookup f=some v/\Q v H1) (ta:=ta) (by
 intro B F σ H Γ x dx Q QQ e rx q k;unfold we at q;split at q
 ·obtain⟨rfl,q⟩:=q;obtain⟨d,hd,q⟩:=b8.mp q;obtain⟨p,dx,gs,rfl,h1,h2,h3⟩:=rx;obtain⟨v,hv,r⟩:=aD.lookup h2 h3 hd;exact⟨p,_,dx,gs,v,rfl,h1,hC,hn,hv,k _ _ (i6 e r q)⟩
 ·exact q.elim) ha.rf⟩
noncomputable def kt (zs:Ls0):D:=.ktup (zs.map .str)
structure Lu (K:Fg0) (mg:SV) (x:Str) (p:Addr) (zs:Ls0):Prop where
 mg:mg x=some (.ref p)
 sq:∀ F:Hp,SqT K F p (zs.map V.str)
theorem aD.strs:∀ (zs:Ls0),aD K F (zs.map D.str) (zs.map V.str)
 | []=>rfl
 | z::zs=>⟨_,_,rfl,rfl,aD.strs zs⟩
theorem ir {x:Str} {zs:Ls0} {p:Addr} {pos:Pos} (hg:Gl X x) (hm:Lu K X.mg x p zs) (hd:autoParam ((x == ("__debug__":Str))=false) d0):P3 K X (.Name x pos) (tC (.ref p)) (t3C (kt zs)):=
 ⟨xj hg hm.mg rfl hd,vP fun F=>⟨p,_,rfl,hm.sq F,aD.strs zs⟩⟩
end
section
variable {K:Fg0} {B:Bs} {F:Hp} {σ:L2.St} {H:Hp} {Γ:G} {X:Cx} {e:Expr} {te:TE} {e3:TE3} {pos:Pos}
end
def oIt (o:Option (Addr×Ls0×List D)) (k:Addr->Ls0->List D->Prop) (_:Tag k):Prop:=oI o k
theorem oE {C:Addr} {ns:Ls0} {xs:List D} {k:Addr->Ls0->List D->Prop} {t:Tag k}:oIt (some (C,ns,xs)) k t=k C ns xs:=rfl
def oSt (o:D) (k:Str->Prop) (_:Tag k):Prop:=oS o k
theorem sv {z:Str} {k:Str->Prop} {t:Tag k}:oSt (.str z) k t=k z:=rfl
def Jz (o:G) (k:D->Prop) (_:Tag k):Prop:=MY o k
theorem sN {d:D} {Γ:G} {k:D->Prop} {t:Tag k}:Jz (some (.ln d)::Γ) k t=k d:=rfl
section
variable {Γ:G} {Q:RV->G->Prop} {QI:List D->G->Prop} {C C0:Addr} {i n:Nat} {f:Str} {S:S3} {e3:TE3} {a3:TB3} {t3:TA3} {D1:E3} {k1 k2:Str} {d1 d2 d0:D} {l3 h3:TO3}
theorem se:D7 C0 i f e3 D1 Γ=(e3 Γ fun r Γ1=>oIt (mS Γ1 i) (fun C ns xs=>C=C0/\(f∉ns/\ns.length < 1000)/\D1.nx (putD Γ1 i (.ins C (ns++[f]) (xs++[r.d])))) ⟨⟩):=rfl
theorem Cc:iS3 e3 Γ QI=(e3 Γ fun r Γ1=>oSt r.d (fun z=>asc z=true/\QI (signs z) Γ1) ⟨⟩):=rfl
end
def bT (c:Bool) (p q:Prop) (_:Tag p) (_:Tag q):Prop:=match c with
 | true=>p
 | false=>q
theorem Gu {p q:Prop} {s:Tag p} {t:Tag q}:bT true p q s t=p:=rfl
theorem Gv {p q:Prop} {s:Tag p} {t:Tag q}:bT false p q s t=q:=rfl
section
variable {Γ:G} {Q:RV->G->Prop} {QB:Bo->G->Prop} {QT:Bool->G->Prop} {QA:List D->G->Prop} {QL:List Bo->G->Prop} {QO:Option Int->G->Prop} {QG:G->Prop} {i j:Nat} {is:List Nat} {D1:E3} {t u:TS3} {e3 f3:TE3} {a3 b3 c3:TB3} {A3 B3:TT3} {t3:TA3} {tb:eA} {d:D} {l3 h3 s3:TO3} {bb:pY} {ys:List D}
theorem zD:LO t u D1 Γ=t { D1 with nx:=u D1 } Γ:=rfl
theorem uq:Ja D1 Γ=D1.nx Γ:=rfl
theorem zC:G0 i e3 D1 Γ=(e3 Γ fun r Γ1=>bI Γ1 i/\D1.nx (Γ1.set i (some r.sl))):=rfl
theorem zE:LS e3 D1 Γ=e3 Γ D1.rt:=rfl
theorem xV:JE e3 D1 Γ=(e3 Γ fun _ Γ1=>D1.nx Γ1):=rfl
theorem zB:tst e3 Γ QT=(e3 Γ fun x Γ1=>match x.d with | .bl k=>QT k Γ1 | _=>False):=rfl
theorem v_:bor i Γ QB=((∃ d,Gat Γ i=some d)/\QB (.v i) Γ):=rfl
theorem wa:bof e3 Γ QB=(e3 Γ fun x Γ1=>QB (.d x.d) Γ1):=rfl
theorem oU:JG a3 tb Γ QL=(a3 Γ fun x Γ1=>tb Γ1 fun xs Γ2=>QL (x::xs) Γ2):=rfl
theorem uo:HJ Γ QL=QL [] Γ:=rfl
theorem ur:m_ e3 t3 Γ QA=(e3 Γ fun x Γ1=>t3 Γ1 fun xs Γ2=>QA (x.d::xs) Γ2):=rfl
theorem zF:E8 Γ QA=QA [] Γ:=rfl
theorem h_c:t3C d Γ Q=Q (.fz d) Γ:=rfl
theorem Ci:Lo A3 B3 Γ QT=(A3 Γ fun c Γ1=>bT c (B3 Γ1 QT) (QT false Γ1) ⟨⟩ ⟨⟩):=by
 show (A3 Γ fun c Γ1=>match c with | true=>B3 Γ1 QT | false=>QT false Γ1)=_
 congr 1
theorem Ia:or3 A3 B3 Γ QT=(A3 Γ fun c Γ1=>bT c (QT true Γ1) (B3 Γ1 QT) ⟨⟩ ⟨⟩):=by
 show (A3 Γ fun c Γ1=>match c with | true=>QT true Γ1 | false=>B3 Γ1 QT)=_
 congr 1
theorem Ce:KR A3 Γ QT=(A3 Γ fun c Γ1=>QT (!c) Γ1):=rfl
theorem zG:MC t3 Γ Q=(t3 Γ fun xs Γ1=>xs.length<=sizeLine/\Q (.fr (.lst xs)) Γ1):=rfl
theorem zA:DU t3 Γ Q=(t3 Γ fun xs Γ1=>xs.length<=sizeLine/\Q (.fz (.tup xs)) Γ1):=rfl
theorem Cg:Ln i e3 Γ Q=((∃ xs,c_ Γ i=some xs)/\e3 Γ fun r Γ1=>∃ xs,c_ Γ1 i=some xs/\xs.length < sizeLine/\Q (.fz .non) (putD Γ1 i (.lst (xs++[r.d])))):=rfl
theorem xR:IS is e3 D1 Γ=(e3 Γ fun r Γ1=>∃ ds Γ',r.d=.tup ds/\gives Γ1 is ds=some Γ'/\frees Γ1 is ds/\D1.nx Γ'):=rfl
theorem xQ:IQ a3 Γ QO=(a3 Γ fun x Γ1=>∃ i,x.at Γ1=some (.int i)/\QO (some i) Γ1):=rfl
theorem xU:I9 Γ QO=QO none Γ:=rfl
abbrev hI (Iv:Nat->G->Prop) (k:Nat) (Γ:G) (_:Tag Iv):Prop:=Iv k Γ
def Jm (xs:List D) (Γ1:G) (g3:TG3) (b3:TS3) (E1:E3) (_:Tag (g3,b3,E1)):Prop:=∃ Iv:Nat->G->Prop,Iv 0 Γ1/\(∀ k d Γ,xs[k]?=some d->Iv k Γ->g3 d Γ fun Γ'=>b3 { E1 with nx:=Iv (k + 1),ct:=Iv (k + 1),bk:=E1.nx } Γ')/\∀ Γ,Iv xs.length Γ->E1.nx Γ
theorem Cf {i3:TI3} {g3:TG3} {b3:TS3} {t1:Tag (i3,g3,b3)} {t2:Tag D1}:Lf i3 g3 b3 D1 Γ t1 t2=(i3 Γ fun xs Γ1=>Jm xs Γ1 g3 b3 D1 ⟨⟩):=rfl
theorem cB {xs:List D} {Γ1:G} {g3:TG3} {b3:TS3} {E1:E3} {t:Tag (g3,b3,E1)} (Iv:Nat->G->Prop) (h0:Iv 0 Γ1) (hs:∀ k d Γ,xs[k]?=some d->Iv k Γ->g3 d Γ fun Γ'=>b3 { E1 with nx:=fun Γ=>hI Iv (k + 1) Γ ⟨⟩,ct:=fun Γ=>hI Iv (k + 1) Γ ⟨⟩,bk:=E1.nx } Γ')
  (he:∀ Γ,Iv xs.length Γ->E1.nx Γ):Jm xs Γ1 g3 b3 E1 t:=⟨Iv,h0,hs,he⟩
abbrev hJ (Iv:Nat->List D->G->Prop) (k:Nat) (ys:List D) (Γ:G) (_:Tag Iv):Prop:=Iv k ys Γ
def JH (xs:List D) (Γ1:G) (fr:On) (g3:TG3) (e3:TE3) (Q:RV->G->Prop) (_:Tag (fr,g3,e3,Q)):Prop:=∃ Iv:Nat->List D->G->Prop,Iv 0 [] (dG Γ1 (dh fr))/\
 (∀ k d ys Γc,xs[k]?=some d->ys.length=k->Iv k ys Γc->g3 d Γc fun Γ2=>e3 Γ2 fun r Γ3=>Iv (k + 1) (ys++[r.d]) Γ3)/\∀ ys Γc,ys.length=xs.length->Iv xs.length ys Γc->Q (.fr (.lst ys)) (bJ fr Γ1 Γc)
theorem xW {fr:On} {i3:TI3} {g3:TG3} {t1:Tag (fr,i3,g3,e3)} {t2:Tag Q}:JI fr i3 g3 e3 Γ Q t1 t2=(i3 Γ fun xs Γ1=>xs.length < sizeLine/\JH xs Γ1 fr g3 e3 Q ⟨⟩):=rfl
theorem aS {xs:List D} {Γ1:G} {fr:On} {g3:TG3} {e3:TE3} {Q:RV->G->Prop} {t:Tag (fr,g3,e3,Q)} (Iv:Nat->List D->G->Prop) (h0:Iv 0 [] (dG Γ1 (dh fr)))
  (hs:∀ k d ys Γc,xs[k]?=some d->ys.length=k->Iv k ys Γc->g3 d Γc fun Γ2=>e3 Γ2 fun r Γ3=>hJ Iv (k + 1) (ys++[r.d]) Γ3 ⟨⟩) (he:∀ ys Γc,ys.length=xs.length->Iv xs.length ys Γc->Q (.fr (.lst ys)) (bJ fr Γ1 Γc)):JH xs Γ1 fr g3 e3 Q t:=⟨Iv,h0,hs,he⟩
def FT (xs:List D) (Γ1:G) (fr:On) (g3:TG3) (b3:pY) (Q:RV->G->Prop) (_:Tag (fr,g3,b3,Q)):Prop:=BZ xs g3 b3 [] (dG Γ1 (dh fr)) fun ys Γc=>ys.length < sizeLine/\Q (.fr (.lst ys)) (bJ fr Γ1 Γc)
theorem sL {fr:On} {i3:TI3} {g3:TG3} {t1:Tag (fr,i3,g3,bb)} {t2:Tag Q}:FU fr i3 g3 bb Γ Q t1 t2=(i3 Γ fun xs Γ1=>FT xs Γ1 fr g3 bb Q ⟨⟩):=rfl
theorem DB {xs:List D} {Γ1:G} {fr:On} {g3:TG3} {b3:pY} {Q:RV->G->Prop} {t:Tag (fr,g3,b3,Q)} (Iv:Nat->List D->G->Prop) (h0:Iv 0 [] (dG Γ1 (dh fr)))
  (hs:∀ k d ys Γ,xs[k]?=some d->Iv k ys Γ->g3 d Γ fun Γ'=>b3 ys Γ' fun ys Γ=>hJ Iv (k + 1) ys Γ ⟨⟩) (he:∀ ys Γc,Iv xs.length ys Γc->ys.length < sizeLine/\Q (.fr (.lst ys)) (bJ fr Γ1 Γc)):FT xs Γ1 fr g3 b3 Q t:=⟨Iv,h0,hs,he⟩
theorem yf {n:Nat} {xs:List D}:eqN (n + 1) (.lst xs) (.lst [])=some xs.isEmpty:=by cases n <;> cases xs <;> rfl
theorem yg {n:Nat} {a b c:Int}:eqN (n + 1) (.lst [.int a,.int b,.int c]) (.lst [.int a,.int b,.int c])=some true:=by
 have:=lI (n:=n) [a,b,c] [a,b,c];rw[decide_eq_true rfl] at this;exact this
theorem i28 {a b:Option D}:(if 2=8 then a else b)=b:=if_neg (by decide)
def Jw (S:S3) (A:G) (L:On) (Γ1:G) (Q:RV->G->Prop) (_:Tag Q):Prop:=S A (fun r Γa=>Q r (bJ L Γ1 Γa))
def MU (S:S3) (A:G) (Γ1:G) (Q:RV->G->Prop) (_:Tag Q):Prop:=S A (fun r Γa=>r=.fz .non/\Jz Γa (fun d=>Q (.fr d) Γ1) ⟨⟩)
theorem pG {n:Nat} {S:S3} {t3:eA}:yx n S t3 Γ Q=(t3 Γ fun bs Γ1=>bs.length=n/\(bQ bs).Nodup/\Jw S (dG Γ1 (bs.map some)) ((bs.map some).map bW) Γ1 Q ⟨⟩):=rfl
theorem xB {C:Addr} {m:Str} {n:Nat} {S:S3} {o3:TB3} {t3:eA}:BX C m n S o3 t3 Γ Q=(o3 Γ fun x Γ1=>(∃ ns xs,x.at Γ1=some (.ins C ns xs)/\m∉ns)/\t3 Γ1 fun bs Γ2=>bs.length + 1=n/\(bQ (x::bs)).Nodup/\Jw S (dG Γ2 ((x::bs).map some)) (((x::bs).map some).map bW) Γ2 Q ⟨⟩):=rfl
theorem xH {C:Addr} {n:Nat} {S:S3} {t3:TA3}:Fd C n S t3 Γ Q=(t3 Γ fun ds Γ1=>ds.length + 1=n/\MU S (some (.ln (.ins C [] []))::ds.map fun d=>some (.fz d)) Γ1 Q ⟨⟩):=rfl
def bG (c:Bool) (t u:TS3) (E1:E3) (Γ:G) (_:Tag (t,u,E1)):Prop:=match c with
 | true=>t E1 Γ
 | false=>u E1 Γ
theorem Gz {s:Tag (t,u,D1)}:bG true t u D1 Γ s=t D1 Γ:=rfl
theorem GA {s:Tag (t,u,D1)}:bG false t u D1 Γ s=u D1 Γ:=rfl
theorem lQ {c:Bool} {s:Tag (t,u,D1)} (h1:c=true->t D1 Γ) (h2:c=false->u D1 Γ):bG c t u D1 Γ s:=by
 cases c with
 | true=>exact h1 rfl
 | false=>exact h2 rfl
theorem zH:MM A3 t u D1 Γ=(A3 Γ fun c Γ1=>bG c t u D1 Γ1 ⟨⟩):=by
 show (A3 Γ fun c Γ1=>match c with | true=>t D1 Γ1 | false=>u D1 Γ1)=_
 congr 1
theorem Ib {e:D}:m_ (t3C e) t3 Γ QA=(t3 Γ fun xs Γ2=>QA (e::xs) Γ2):=rfl
theorem zz {d e:D}:DU (m_ (t3C d) (m_ (t3C e) E8)) Γ Q=Q (.fz (.tup [d,e])) Γ:=by
 show (2<=sizeLine/\Q (.fz (.tup [d,e])) Γ)=_;exact propext ⟨fun h=>h.2,fun h=>⟨by rw[sizeLine_eq];decide,h⟩⟩
theorem Ic {d e:D}:m_ (DU (m_ (t3C d) (m_ (t3C e) E8))) t3 Γ QA=(t3 Γ fun xs Γ2=>QA (.tup [d,e]::xs) Γ2):=by
 show DU (m_ (t3C d) (m_ (t3C e) E8)) Γ (fun x Γ1=>t3 Γ1 fun xs Γ2=>QA (x.d::xs) Γ2)=_;rw[zz];rfl
end
theorem ln0 {α:Type} {us:List α} (h:us.length=0):us=[]:=List.eq_nil_of_length_eq_zero h
theorem ln1 {α:Type} {us:List α} (h:us.length=1):∃ a,us=[a]:=by
 match us,h with
 | [a],_=>exact⟨a,rfl⟩
theorem ln2 {α:Type} {us:List α} (h:us.length=2):∃ a b,us=[a,b]:=by
 match us,h with
 | [a,b],_=>exact⟨a,b,rfl⟩
theorem ln3 {α:Type} {us:List α} (h:us.length=3):∃ a b c,us=[a,b,c]:=by
 match us,h with
 | [a,b,c],_=>exact⟨a,b,c,rfl⟩
theorem ln4 {α:Type} {us:List α} (h:us.length=4):∃ a b c d,us=[a,b,c,d]:=by
 match us,h with
 | [a,b,c,d],_=>exact⟨a,b,c,d,rfl⟩
theorem ln5 {α:Type} {us:List α} (h:us.length=5):∃ a b c d e,us=[a,b,c,d,e]:=by
 match us,h with
 | [a,b,c,d,e],_=>exact⟨a,b,c,d,e,rfl⟩
section
variable {K:Fg0} {B:Bs} {F:Hp} {σ:L2.St} {H:Hp} {Γ:G} {X:Cx}
noncomputable def Bs.hid (B:Bs) (p:Addr) (o:HO):Bs:=⟨B.F,upd B.H p o,B.own⟩
theorem En.hide (e:En K B F σ H Γ) {p:Addr} {o:HO} (hF:F p=none) (hH:H p=some o) (hn:∀ (i:Nat) (d:D),Hld Γ i d->σ[i]?≠some (some (V.ref p))):En K (B.hid p o) F σ H Γ where
 sub:=e.sub
 len:=e.len
 fz:=e.fz
 hl:=e.hl
 ow:=fun i d p' h a=>by
  have z:p'≠p:=fun z=>hn i d (.inl h) (z ▸ a);show upd B.H p o p'=none;rw[ah z];exact e.ow i d p' h a
 ln:=e.ln
 dis:=e.dis
 par:=e.par
 keep:=e.keep
 new:=fun b u h=>by
  rcases e.new b u h with q | q
  ·exact .inl q
  ·have z:b≠p:=fun z=>by subst z;rw[hF] at h;cases h
   exact .inr (by show upd B.H p o b=none;rw[ah z];exact q)
 rest:=fun b u h n=>by
  by_cases z:b=p
  ·subst z;have h:upd B.H b o b=some u:=h;rw[ar] at h;cases h;exact hH
  ·have h:upd B.H p o b=some u:=h;rw[ah z] at h;exact e.rest b u h n
 dom:=fun b h=>by
  have z:b≠p:=fun z=>by subst z;rw[hH] at h;cases h
  show upd B.H p o b=none;rw[ah z];exact e.dom b h
theorem En.Ag {p:Addr} {o:HO} (e:En K (B.hid p o) F σ H Γ) (hB:B.H p=none) (hF:B.F p=none) (hn:∀ i,(i,p)∉B.own) :
  En K B F σ H Γ/\H p=some o/\F p=none/\∀ (i:Nat) (d:D),Hld Γ i d->σ[i]?≠some (some (V.ref p)):=by
 have at_p:(B.hid p o).H p=some o:=ar;have ne:∀ {b:Addr},b≠p->(B.hid p o).H b=B.H b:=fun z=>ah z;have un:∀ {b:Addr},(B.hid p o).H b=none->B.H b=none:=fun {b} h=>by
  have z:b≠p:=fun z=>by subst z;rw[at_p] at h;cases h
  rw[<- ne z];exact h
 refine⟨⟨e.sub,e.len,e.fz,e.hl,fun i d q h a=>un (e.ow i d q h a),e.ln,e.dis,e.par,e.keep,fun b u h=>(e.new b u h).imp id un,fun b u h n=>e.rest b u ?_ n,fun b h=>un (e.dom b h)⟩,e.rest p o at_p hn,?_,fun i d h a=>?_⟩
 ·have z:b≠p:=fun z=>by subst z;rw[hB] at h;cases h
  rw[ne z];exact h
 ·cases q:F p with
  | none=>rfl
  | some u=>
   rcases e.new p u q with z | z
   ·rw[show (B.hid p o).F p=B.F p from rfl,hF] at z;cases z
   ·rw[at_p] at z;cases z
 ·rcases h with h | h
  ·have z:=e.ow i d p h a;rw[at_p] at z;cases z
  ·exact hn i (e.ln i d p h a)
def frL (r:RV) (k:List D->Prop):Prop:=match r with
 | .fr (.lst xs)=>k xs
 | _=>False
theorem qt {r:RV} {k:List D->Prop} (h:frL r k):∃ xs,r=.fr (.lst xs)/\k xs:=by
 cases r with
 | fz d=>exact h.elim
 | two _ _=>exact h.elim
 | rws _=>exact h.elim
 | fr d=>cases d <;> first | exact h.elim | exact⟨_,rfl,h⟩
def DR (a3 b3:TE3) (Γ:G) (Q:RV->G->Prop):Prop:=a3 Γ fun r Γ1=>frL r fun xs=>b3 Γ1 fun r' Γ2=>frL r' fun ys=>Q (.two xs ys) Γ2
variable {a b:Expr} {ta tb:TE} {a3 b3:TE3} {pos:Pos}
theorem EO {x1} (ha:P3 K X a ta a3) (hb:P3 K X b tb b3) (hs:autoParam (starEach [a,b] X.env=(false,eval a X.env)::starEach [b] X.env) r0) (hs2:autoParam (starEach [b] X.env=(false,eval b X.env)::starEach [] X.env) r0):P3 K X (.Tuple [a,b] x1 pos) (GQ (kq ta (kq tb rz))) (DR a3 b3):=⟨Az (gf ha.pe (gf hb.pe qe hs2) hs),by
 intro B F σ H Γ Q QQ e q k;refine ha.rf B F σ H Γ _ _ e q fun v H1 Z=>?_;obtain⟨F1,Γ1,r,s1,e1,rv,q1⟩:=Z;obtain⟨xs,rfl,q1⟩:=qt q1;obtain⟨p,rfl,f1,⟨vs,h1,r1⟩,b1,n1⟩:=rv;have bf:B.F p=none:=by
  cases z:B.F p with
  | none=>rfl
  | some o=>have:=e1.keep _ _ z;rw[f1] at this;cases this
 have no:∀ i,(i,p)∉B.own:=fun i z=>by
  obtain⟨x,d,y⟩:=e1.par i p z;exact n1 i d (.inr y) x
 refine hb.rf (B.hid p (.lst vs)) F1 σ H1 Γ1 _ _ (e1.hide f1 h1 n1) q1 fun w H2 Z=>?_;obtain⟨F2,Γ2,r',s2,e2,rv2,q2⟩:=Z;obtain⟨ys,rfl,q2⟩:=qt q2;obtain⟨q',rfl,f2,⟨ws,h2,r2⟩,b2,n2⟩:=rv2;have ne:q'≠p:=fun z=>by
  have b2:upd B.H p (.lst vs) q'=none:=b2;rw[z,ar] at b2;cases b2
 have b2':B.H q'=none:=by
  have b2:upd B.H p (.lst vs) q'=none:=b2;rw[ah ne] at b2;exact b2
 obtain⟨e3,h3,f3,n3⟩:=e2.Ag b1 bf no;refine⟨by show 2<=sizeLine;rw[sizeLine_eq];omega,fun l hl=>k _ _ ⟨F2,Γ2,.two xs ys,s1.trans s2,e3.alloc hl _,⟨l,p,q',vs,ws,rfl,ar,?_,?_,r1.mono s2,r2,Ne.symm ne,fun z hz=>?_⟩,q2⟩⟩
 ·rw[ah (aF h3 hl)];exact h3
 ·rw[ah (aF h2 hl)];exact h2
 ·rcases hz with rfl | rfl | rfl
  ·exact⟨e3.nof hl,e3.dom _ hl,e3.uc hl⟩
  ·exact⟨f3,b1,n3⟩
  ·exact⟨f2,b2',n2⟩⟩
def iT3 (a3:TE3) (Γ:G) (Q:List D->G->Prop):Prop:=a3 Γ fun r Γ1=>∃ xs,r.d=.tup xs/\Q xs Γ1
theorem Lb {tg l:Expr} {tl:TE} {l3:TE3} (hK:X.K=K) (h:P3 K X l tl l3):P3I K X tg l (MP K tl) (iT3 l3):=⟨by subst hK;exact Kt h.pe,fun B F σ H Γ Q R e q k=>
 h.rf B F σ H Γ _ _ e q fun v H' Z=>by
  obtain⟨F',Γ',r,s,e',rv,xs,hx,q'⟩:=Z;obtain⟨F2,s2,e2,r2⟩:=e'.frozen rv;rw[hx] at r2;obtain⟨p,vs,rfl,h1,h2⟩:=r2;refine⟨p,rfl,⟨vs,SqT.of (e2.sub _ _ h1)⟩,k _ H' F2 Γ' xs (s.trans s2) e2 ⟨fun i H'' sm lt=>?_,fun i H'' sm ei=>?_,fun i H'' x H3 d sm hd y=>?_⟩ q'⟩
  ·rw[<- h2.length] at lt;exact⟨vs,vs[i],SqT.of (sm _ _ h1),by simp [lt]⟩
  ·exact⟨vs,SqT.of (sm _ _ h1),by rw[h2.length];omega⟩
  ·obtain⟨e1,y⟩:=y;obtain⟨d',hd',r⟩:=h2.Ie (y vs (SqT.of (sm _ _ h1)));rw[hd] at hd';cases hd';exact .inl ⟨e1,r⟩⟩
end
open PySem L2 PySem.Spec PyProof.Rows
section
variable {K:Fg0} {B:Bs} {F:Hp} {σ:L2.St} {H:Hp} {Γ:G} {X:Cx} {p:Addr}
variable {st:Stmt} {rest:List Stmt} {t u:TS} {t3 u3:TS3}
end
section
variable {P:Program} {w:World} {K:Fg0} {mg:SV} {base:Heap}
end
section
variable {K:Fg0} {B:Bs} {F:Hp} {σ:L2.St} {H:Hp} {Γ:G} {X:Cx} {pos:Pos}
def y6 (i j:Nat) (a3 b3:TE3) (D:E3) (Γ:G):Prop:=a3 Γ fun r Γ1=>frL r fun xs=>b3 Γ1 fun r' Γ2=>frL r' fun ys=>bI Γ2 i/\bI (Γ2.set i (some (.ow (.lst xs)))) j/\D.nx ((Γ2.set i (some (.ow (.lst xs)))).set j (some (.ow (.lst ys))))
theorem G4 {i j:Nat} {x y:Str} {a b:Expr} {ta tb:TE} {a3 b3:TE3} {px py pt:Pos} {kt k2 pt2} (hc:X.calm=true) (hN:X.N.Nodup) (hi:X.N[i]?=some x) (hj:X.N[j]?=some y) (hij:i≠j)
  (hx:X.env.scope.names.lookup x=some .local) (hy:X.env.scope.names.lookup y=some .local) (ha:P3 K X a ta a3) (hb:P3 K X b tb b3)
  (hw:swappedStores [.Tuple [.Name x px,.Name y py] kt pt] (.Tuple [a,b] k2 pt2) X.env=pure (some [x,y]))
  (hs:autoParam (swapsWithSole [.Tuple [.Name x px,.Name y py] kt pt] (.Tuple [a,b] k2 pt2) pos.line X.env=pure false) r0)
  (hs1:autoParam (starEach [a,b] X.env=(false,eval a X.env)::starEach [b] X.env) r0) (hs2:autoParam (starEach [b] X.env=(false,eval b X.env)::starEach [] X.env) r0) :
  P3S K X (.Assign [.Tuple [.Name x px,.Name y py] kt pt] (.Tuple [a,b] k2 pt2) pos) (JY i j (kq ta (kq tb rz))) (y6 i j a3 b3):=⟨Eu hc hN hi hj hij hx hy (gf ha.pe (gf hb.pe qe hs2) hs1) hw hs,fun B F σ H Γ D D3 e k q=>by
 refine ha.rf B F σ H Γ _ _ e q fun v H1 Z=>?_;obtain⟨F1,Γ1,r,s1,e1,rv,q1⟩:=Z;obtain⟨xs,rfl,q1⟩:=qt q1;obtain⟨p,rfl,f1,⟨vs,h1,r1⟩,b1,n1⟩:=rv;have bf:B.F p=none:=by
  cases z:B.F p with
  | none=>rfl
  | some o=>have:=e1.keep _ _ z;rw[f1] at this;cases this
 have no:∀ i,(i,p)∉B.own:=fun i z=>by
  obtain⟨x,d,y⟩:=e1.par i p z;exact n1 i d (.inr y) x
 refine hb.rf (B.hid p (.lst vs)) F1 σ H1 Γ1 _ _ (e1.hide f1 h1 n1) q1 fun w H2 Z=>?_;obtain⟨F2,Γ2,r',s2,e2,rv2,q2⟩:=Z;obtain⟨ys,rfl,g1,g2,q2⟩:=qt q2;obtain⟨q',rfl,f2,⟨ws,h2,r2⟩,b2,n2⟩:=rv2;have ne:q'≠p:=fun z=>by
  have b2:upd B.H p (.lst vs) q'=none:=b2;rw[z,ar] at b2;cases b2
 have b2':B.H q'=none:=by
  have b2:upd B.H p (.lst vs) q'=none:=b2;rw[ah ne] at b2;exact b2
 obtain⟨e3,h3,f3,n3⟩:=e2.Ag b1 bf no;have il:=gR g1;have is:i < σ.length:=by rw[e3.len];exact il
 have e4:=e3.set (v:=.ref p) (r:=.fr (.lst xs)) g1 ⟨p,rfl,f3,⟨vs,h3,r1.mono s2⟩,b1,n3⟩;have e5:=e4.set (v:=.ref q') (r:=.fr (.lst ys)) g2 ⟨q',rfl,f2,⟨ws,h2,r2⟩,b2',fun m d hm a=>by
  by_cases z:m=i
  ·subst z;rw[aw is] at a;cases a;exact ne rfl
  ·rw[aC (Ne.symm z)] at a;exact n2 m d (by unfold Hld at hm ⊢;rw[aC (Ne.symm z)] at hm;exact hm) a⟩
 exact⟨_,_,rfl,k.nx F2 _ H2 _ (s1.trans s2) e5 q2⟩⟩
def yK (i:Nat) (b3:TE3) (Γ:G) (Q:RV->G->Prop):Prop:=(∃ d,Gat Γ i=some d)/\b3 Γ fun r' Γ2=>frL r' fun ys=>∃ xs,Γ2[i]?=some (some (Sl.ow (.lst xs)))/\Q (.two xs ys) (Γ2.set i none)
theorem Hz (i:Nat) {x:Str} {b:Expr} {tb:TE} {b3:TE3} {x1} {px:Pos} (hx:P3B K X (.Name x px) (cH i) (bor i)) (hb:P3 K X b tb b3) (hs:autoParam (starEach [.Name x px,b] X.env=(false,eval (.Name x px) X.env)::starEach [b] X.env) r0) (hs2:autoParam (starEach [b] X.env=(false,eval b X.env)::starEach [] X.env) r0):P3 K X (.Tuple [.Name x px,b] x1 pos) (GQ (kq (cH i) (kq tb rz))) (yK i b3):=⟨Az (gf hx.pe (gf hb.pe qe hs2) hs),by
 intro B F σ H Γ Q QQ e ⟨⟨d,hd⟩,q⟩ k;obtain⟨v,hv,_⟩:=e.get hd;refine⟨v,hv,hb.rf B F σ H Γ _ _ e q fun w H2 Z=>?_⟩;obtain⟨F2,Γ2,r',s2,e2,rv2,q2⟩:=Z;obtain⟨ys,rfl,xs,hx,q2⟩:=qt q2;obtain⟨q',rfl,f2,⟨ws,h2,r2⟩,b2,n2⟩:=rv2;obtain⟨p,a1,f1,vs,h1,r1⟩:=e2.hl i _ (.inl hx);rw[hv] at a1;cases a1;have hf:bI Γ2 i:=by unfold bI;rw[hx];trivial
 have e3:=e2.forget hf;have ne:p≠q':=fun z=>n2 i _ (.inl hx) (z ▸ hv);have hj:∀ {j:Nat} {d:D},Hld (Γ2.set i none) j d->j≠i/\Hld Γ2 j d:=fun {j d} h=>by
  by_cases z:j=i
  ·subst z;rcases h with h | h <;> rw[aw (gR hf)] at h <;> cases h
  ·exact⟨z,by unfold Hld at h ⊢;rw[aC (Ne.symm z)] at h;exact h⟩
 refine⟨by show 2<=sizeLine;rw[sizeLine_eq];omega,fun l hl=>k _ _ ⟨F2,_,.two xs ys,s2,e3.alloc hl _,⟨l,p,q',vs,ws,rfl,ar,?_,?_,r1,r2,ne,fun z hz=>?_⟩,q2⟩⟩
 ·rw[ah (aF h1 hl)];exact h1
 ·rw[ah (aF h2 hl)];exact h2
 ·rcases hz with rfl | rfl | rfl
  ·exact⟨e3.nof hl,e3.dom _ hl,e3.uc hl⟩
  ·exact⟨f1,e2.ow i _ _ hx hv,fun j d h a=>(hj h).1 (e2.dis j i d _ _ (hj h).2 (.inl hx) a hv)⟩
  ·exact⟨f2,b2,fun j d h=>n2 j d (hj h).2⟩⟩
end
theorem ML {K:Fg0} {n:Nat} {S S':S3} (h:∀ Γ Q,S' Γ Q->S Γ Q) (vs:List V) (H:Hp) (Q:VK) (E:XK) (q:sp3 K n S' vs H Q E):sp3 K n S vs H Q E:=by
 obtain⟨a,F,own,Γa,Q3,b,c,d,e⟩:=q;exact⟨a,F,own,Γa,Q3,b,c,h _ _ d,e⟩
abbrev rd2 (f:Li0->Sl) (C:Li0->Int->Prop) (g:Li0->Int->Li0):S3:=fun Γ Q=>∃ (ns:Li0) (m:Int),Γ=[some (f ns),some (.fz (.int m))]/\C ns m/\Q (.fr (.lst ((g ns m).map .int))) Γ
section
variable {P:Program} {w:World} {K:Fg0} {mg:SV} {base:Heap}
theorem Jo {k:Nat} {f:Addr} {fd:FuncData} {ps:Ls0} {C:Li0->Int->Prop} {g:Li0->Int->Li0} (F:aG P w K mg base CX0 k f fd ps (sp3 K 2 (rd2 (fun ns=>.fz (.lst (ns.map .int))) C g))):aG P w K mg base CX0 k f fd ps (sp3 K 2 (rd2 (fun ns=>.ln (.lst (ns.map .int))) C g)):=by
 refine F.imp fun vs H Q E h=>?_;obtain⟨hl,F0,own,Γa,Q3,e,hno,⟨ns,m,rfl,hC,hq⟩,hQ⟩:=h;obtain⟨v0,v1,rfl⟩:∃ a b,vs=[a,b]:=by
  match vs,hl with
  | [a,b],_=>exact⟨a,b,rfl⟩
 obtain⟨p0,a0,f0,us0,h0,r0⟩:=e.hl 0 _ (.inr rfl);have a0:some (some v0)=some (some (V.ref p0)):=a0;cases a0;have r0:=r0.kX;subst r0;have own0:=e.ln 0 _ p0 rfl rfl;obtain⟨u1,a1,r1⟩:=e.fz 1 _ rfl;have a1:some (some v1)=some (some u1):=a1;cases a1;have r1:v1=.int m:=r1;subst r1;have sl:∀ {i:Nat} {s:Sl} {x y:Sl},[some x,some y][i]?=some (some s)->(i=0/\s=x)\/(i=1/\s=y):=fun {i s x y} h=>by
  rcases i with _ | _ | n
  ·cases h;exact .inl ⟨rfl,rfl⟩
  ·cases h;exact .inr ⟨rfl,rfl⟩
  ·simp at h
 have nh:∀ {i:Nat} {d x y:D},¬ Hld [some (Sl.fz x),some (Sl.fz y)] i d:=fun {i d x y} h=>by
  rcases h with h | h <;> rcases sl h with ⟨rfl,q⟩ | ⟨rfl,q⟩ <;> cases q
 have hd:∀ {i:Nat} {d x y:D},Hld [some (Sl.ln x),some (Sl.fz y)] i d->i=0/\d=x:=fun {i d x y} h=>by
  rcases h with h | h <;> rcases sl h with ⟨rfl,q⟩ | ⟨rfl,q⟩ <;> cases q
  exact⟨rfl,rfl⟩
 have sm:aB (upd F0 p0 (.lst (ns.map V.int))) H:=fun b o h=>by
  by_cases z:b=p0
  ·subst z;rw[ar] at h;cases h;exact h0
  ·rw[ah z] at h;exact e.sub b o h
 refine⟨rfl,upd F0 p0 (.lst (ns.map V.int)),[],_,fun r Γ'=>r=.fr (.lst ((g ns m).map .int))/\Γ'=[some (.fz (.lst (ns.map .int))),some (.fz (.int m))],⟨sm,rfl,?_,fun i d h=>absurd h nh,fun i d p h=>absurd (Or.inl h) nh,fun i d p h=>absurd (Or.inr h) nh,fun i j d d' p h=>absurd h nh,fun i p h=>(by cases h),fun b o h=>h,fun b o h=>.inl h,fun b o h _=>h,fun b h=>h⟩,?_,⟨ns,m,rfl,hC,rfl,rfl⟩,?_⟩
 ·intro i d h;rcases sl h with ⟨rfl,q⟩ | ⟨rfl,q⟩ <;> cases q
  ·exact⟨_,rfl,p0,_,rfl,ar,aD.ints ns⟩
  ·exact⟨_,rfl,rfl⟩
 ·intro i d h;rcases sl h with ⟨rfl,q⟩ | ⟨rfl,q⟩ <;> cases q
 ·rintro r Γ' ⟨rfl,rfl⟩ v H' F' e' ⟨q,rfl,fq,⟨us,hq',rq⟩,bq,_⟩;have rq:=rq.kX;subst rq;have bq:H q=none:=bq;have rest:∀ b o,H b=some o->H' b=some o:=fun b o h=>e'.rest b o h (fun i hi=>by cases hi);have nq:F0 q=none:=by
   cases z:F0 q with
   | none=>rfl
   | some o=>have:=e.sub _ _ z;rw[bq] at this;cases this
  refine hQ _ _ hq _ H' F0 ⟨fun b o h=>rest b o (e.sub b o h),rfl,?_,?_,?_,?_,?_,?_,fun b o h=>h,fun b o h=>.inl h,fun b o h n=>rest b o h,fun b h=>e'.dom b h⟩ ⟨q,rfl,nq,⟨_,hq',aD.ints _⟩,bq,fun i d h a=>?_⟩
  ·intro i d h;rcases sl h with ⟨rfl,q⟩ | ⟨rfl,q⟩ <;> cases q
   exact⟨_,rfl,rfl⟩
  ·intro i d h;obtain⟨rfl,rfl⟩:=hd h;exact⟨p0,rfl,f0,_,rest _ _ h0,aD.ints ns⟩
  ·intro i d p h;rcases sl h with ⟨rfl,q⟩ | ⟨rfl,q⟩ <;> cases q
  ·intro i d p h a;obtain⟨rfl,rfl⟩:=hd (.inr h);have a:some (some (V.ref p0))=some (some (V.ref p)):=a;cases a;exact own0
  ·intro i j d d' p q1 q2 _ _;rw[(hd q1).1,(hd q2).1]
  ·intro i p h;obtain⟨x,d,y⟩:=e.par i p h;rcases sl y with ⟨rfl,q⟩ | ⟨rfl,q⟩ <;> cases q
   exact⟨x,_,rfl⟩
  ·obtain⟨rfl,rfl⟩:=hd h;have a:some (some (V.ref p0))=some (some (V.ref q)):=a;cases a;rw[h0] at bq;cases bq
end
noncomputable def wd (i:Int):List Nat:=(toString i).toList.map Char.toNat
noncomputable def tl:Li0->List Nat
 | []=>[93]
 | i::is=>44::32::(wd i++tl is)
noncomputable def lt:Li0->List Nat
 | []=>[91,93]
 | i::is=>91::(wd i++tl is)
section
variable {K:Fg0} {X:Cx} {B:Bs} {F0:Hp} {e:Expr} {st:Stmt} {rest:List Stmt} {te:TE} {e3:TE3} {t u:TS} {t3 u3:TS3} {pos:Pos}
end
section
variable {K:Fg0} {B:Bs} {F0:Hp}
end
section
variable {P:Program} {w:World} {K:Fg0} {mg:SV} {base:Heap}
end
section
variable {K:Fg0} {X:Cx} {B:Bs} {F0:Hp} {e:Expr} {te:TE} {e3:TE3} {pos:Pos}
end
section
variable {K:Fg0} {X:Cx} {B:Bs} {F0:Hp} {CX:CXT} {k:Nat} {f C:Addr} {fd:FuncData} {ps:Ls0} {x m:Str} {p pos apos:Pos} {e o:Expr} {es:List Expr} {ta:TE} {t:TA} {t3:eA} {o3:TB3} {n:Nat} {S:S3X} {E:L2.St->XK} {W:XD->G->Prop}
end
section
variable {K:Fg0} {X:Cx} {B:Bs} {F0:Hp} {CX:CXT} {k:Nat} {f C:Addr} {fd:FuncData} {ps ns:Ls0} {x:Str} {p pos cpos:Pos} {e:Expr} {es:List Expr} {t:TA} {t3:TA3} {E:XK} {W:XD->G->Prop}
end
section
variable {K:Fg0} {B:Bs} {F F0:Hp} {σ:L2.St} {H:Hp} {Γ:G} {C₀:Addr} {i:Nat}
end
section
variable {K:Fg0} {X:Cx} {B:Bs} {F0:Hp} {x nm:Str} {i:Nat} {C₀ L:Addr} {body suite:List Stmt} {b₀:Stmt} {np hpos pos:Pos} {tb:(L2.St->XK)->TS} {b3:(XD->G->Prop)->TS3} {ts:TS} {s3:TS3}
end
section
variable {K:Fg0} {X:Cx} {a:Expr} {ta:TE} {a3:TB3} {pos:Pos}
end
end L3
namespace L2
open PySem PySem.Spec PyProof.Rows
section
variable {X:Cx}
theorem Gd:bV X (.builtin "isinstance") (fun xs H Q=>∃ x c t b,xs=[x,c]/\mD X.K H x t/\isC c=true/\PySem.W.kitOne X.K t (vv c)=some b/\Q (.bl b) H):=by
 intro pins s σ H xs us Q I r h;obtain⟨x,c,t,b,rfl,ty,ic,k,q⟩:=h;obtain⟨u,w',rfl,ru,rw'⟩:=vals2 r;obtain rfl:=LC ic rw';exact v3 I ru ty k fun tk=>⟨.bl b,H,I.tok _,rfl,q⟩
end
end L2
namespace L3
open PySem L2
section
variable {K:Fg0} {B:Bs} {F:Hp} {σ:L2.St} {H:Hp} {Γ:G} {X:Cx} {a b o e:Expr} {to te ta:TE} {e3 o3 a3:TE3} {b3:TB3} {pos apos cpos:Pos}
section
variable (hbase:∀ m:Str,m="removeprefix"\/m="split"\/m="join"->True)
end
def Cb (ds:List D) (Γ:G) (Q:RV->G->Prop):Prop:=match ds with
 | [.str z]=>∃ n,(PySem.intText? z=some n/\z.length<=640)/\Q (.fz (.int n)) Γ
 | _=>False
noncomputable def itx (i:Int):Str:=Str.ofString (toString i)
noncomputable def inT (i j:Str):Bool:=!(Builtin.Str.occurrences j i 0 j.length 1).isEmpty
def Dv (x y:D) (Γ:G) (Q:RV->G->Prop):Prop:=match x,y with
 | .str i,.str j=>Q (.fz (.bl (inT i j))) Γ
 | _,_=>False
theorem Gn:C3 K X .In (fun x y H Q=>∃ i j,x=.str i/\y=.str j/\Q (.bl (!(Builtin.Str.occurrences j i 0 j.length 1).isEmpty)) H) Dv:=⟨C9,by
 intro B F σ H Γ x y dx dy Q QQ e rx ry q k;unfold Dv at q;split at q
 ·cases rx;cases ry;exact⟨_,_,rfl,rfl,k _ _ (om e q)⟩
 ·exact q.elim⟩
theorem BU {x:Str} {C:Addr} (hg:Gl X x) (hm:X.mg x=some (.ref C)) (hd:autoParam ((x == ("__debug__":Str))=false) d0):P3 K X (.Name x pos) (tC (.ref C)) (t3C (.adr C)):=
 ⟨xj hg hm rfl hd,fun B F σ H Γ Q QQ e q k=>k _ _ (i6 (d:=.adr C) e rfl q)⟩
structure JP (K:Fg0) (C:Addr):Prop where
 cl:Cls K C
 ha:PySem.W.findIn K (.ref C) "__class__"=some (some (.builtin "object.__class__"))
 hn:PySem.W.specialIn K (.builtin "object.__class__") "__get__"=some (some (.builtin "getset_descriptor.__get__"))
 ht:PySem.W.takesIn K (.builtin "object.__class__")=some true
 hm:PySem.W.mroIn K C (.type "object")=some true
 o:PySem.W.kitOne K (.ref C) (.ref C)=some true
 b:PySem.W.kitOne K (.type "bool") (.ref C)=some false
 i:PySem.W.kitOne K (.type "int") (.ref C)=some false
 n:PySem.W.kitOne K (.type "NoneType") (.ref C)=some false
 s:PySem.W.kitOne K (.type "str") (.ref C)=some false
 l:PySem.W.kitOne K (.type "list") (.ref C)=some false
 t:PySem.W.kitOne K (.type "tuple") (.ref C)=some false
 d:PySem.W.kitOne K (.type "dict") (.ref C)=some false
noncomputable def HB (C:Addr):D->Option Bool
 | .ins C' _ _=>if C'=C then some true else none
 | d=>if knD d=true then some false else none
theorem HA {C:Addr} {d:D} (h:knD d=true):HB C d=some false:=by
 cases d <;> first | rfl | cases h
def Ds (C:Addr) (ds:List D) (Γ:G) (Q:RV->G->Prop):Prop:=match ds with
 | [d,.adr C']=>C'=C/\∃ b,HB C d=some b/\Q (.fz (.bl b)) Γ
 | _=>False
theorem JK {C:Addr} (hK:X.K=K) (c:JP K C):B3 K X (.builtin "isinstance") (fun xs H Q=>∃ x c t b,xs=[x,c]/\mD K H x t/\isC c=true/\PySem.W.kitOne K t (vv c)=some b/\Q (.bl b) H) (Ds C):=⟨by subst hK;exact Gd,by
 intro B F σ H Γ vs ds Q QQ e r q k;unfold Ds at q;split at q
 ·rename_i d C';obtain⟨rfl,b,hb,q⟩:=q;obtain⟨v,w,rfl,h1,h2⟩:=r.two;cases h2;have go:∃ t,mD K H v t/\PySem.W.kitOne K t (.ref C')=some b:=by
   by_cases hk:knD d=true
   ·rw[HA hk] at hb;cases hb;cases Fm e.sub h1 hk with
    | non=>exact⟨_,.non,c.n⟩
    | bl x=>exact⟨_,.bl x,c.b⟩
    | int x=>exact⟨_,.int x,c.i⟩
    | str x=>exact⟨_,.str x,c.s⟩
    | lst x=>exact⟨_,.lst x,c.l⟩
    | tup x=>exact⟨_,.tup x,c.t⟩
    | dK x=>exact⟨_,.dK x,c.d⟩
   ·cases d with
    | ins C0 ns xs=>
     have hb':(if C0=C' then some true else none)=some b:=hb;by_cases z:C0=C'
     ·rw[if_pos z] at hb';cases hb';subst z;obtain⟨p,dx,gs,rfl,g,_⟩:=h1;exact⟨_,.ins g c.cl c.ha c.hn c.ht c.hm,c.o⟩
     ·rw[if_neg z] at hb';cases hb'
    | _=>first | exact absurd rfl hk | cases hb
  obtain⟨t,ty,kk⟩:=go;exact⟨v,_,t,b,rfl,ty,rfl,kk,k _ _ (om e q)⟩
 ·exact q.elim⟩
end
section
variable {K:Fg0} {X:Cx} {c:Expr} {body:List Stmt} {tc:TT} {A3:TT3} {tb:TS} {b3:TS3} {pos:Pos}
end
section
variable {K:Fg0} {X:Cx} {st:Stmt} {t:TS} {t3:TS3}
end
def fz3 (e3:TE3) (Γ:G) (Q:RV->G->Prop):Prop:=e3 Γ fun r Γ1=>Q (.fz r.d) Γ1
theorem tX {K:Fg0} {X:Cx} {e:Expr} {te:TE} {e3:TE3} (h:P3 K X e te e3):P3 K X e te (fz3 e3):=⟨h.pe,fun B F σ H Γ Q QQ en q k=>h.rf B F σ H Γ _ _ en q fun v H' Z=>by
 obtain⟨F',Γ',r,s,e',rv,q'⟩:=Z;obtain⟨F2,s2,e2,rp⟩:=e'.frozen rv;exact k v H' ⟨F2,Γ',.fz r.d,s.trans s2,e2,rp,q'⟩⟩
section
variable {Γ:G} {Q:RV->G->Prop} {W:XD->G->Prop} {D:E3}
def mC (o:Option Nat) (k:Nat->Prop) (_:Tag k):Prop:=∃ c,o=some c/\k c
theorem Fp {z:Str} {i:Int}:ix3 (.str z) (.int i) Γ Q=(z.length<=sizeLine/\mC (atI z.cps.toList i) (fun c=>Q (.fz (.str ⟨#[c]⟩)) Γ) ⟨⟩):=rfl
end
end L3
namespace L2
open PySem PySem.Spec PyProof.Rows
section
variable {X:Cx} {a b e:Expr} {ta tb te:TE} {rest es:List Expr} {pos:Pos}
theorem Bl {k:Nat} (hr:bN k X.A):bV X (.builtin "repr") (fun xs H Q=>(xs=[.non]/\Q (.str "None") H)\/(∃ c,xs=[.bl c]/\Q (.str (if c then "True" else "False")) H)\/(∃ i,xs=[.int i]/\i.natAbs.log2 < 1920/\Q (.str (toString i)) H)\/∃ z,xs=[.str z]/\(reprText z).length<=sizeLine/\Q (.str (reprText z)) H):=by
 intro pins s σ H xs us Q I r h;rcases h with ⟨rfl,q⟩ | ⟨c,rfl,q⟩ | ⟨i,rfl,hi,q⟩ | ⟨z,rfl,hz,q⟩
 ·obtain⟨u,rfl,ru⟩:=vals1 r;cases ru;exact P.repr_of_none ⟨.str _,H,I.tok _,⟨_,rfl⟩,q⟩
 ·obtain⟨u,rfl,ru⟩:=vals1 r;cases ru;exact P.repr_of_bool ⟨.str _,H,I.tok _,⟨_,rfl⟩,q⟩
 ·obtain⟨u,rfl,ru⟩:=vals1 r;obtain⟨t,rfl⟩:=ru;exact P.repr_of_int hi ⟨.str _,H,I.tok _,⟨_,rfl⟩,q⟩
 ·obtain⟨u,rfl,ru⟩:=vals1 r;obtain⟨t,rfl⟩:=ru;exact P.repr_of_str ⟨.str _,H,I.tok _,⟨_,rfl⟩,q⟩ hz
end
end L2
namespace L3
open PySem L2
section
variable {K:Fg0} {B:Bs} {F:Hp} {σ:L2.St} {H:Hp} {Γ:G} {X:Cx} {a b o e:Expr} {rest es:List Expr} {to te ta tb:TE} {e3 o3 a3 b3:TE3} {pos apos cpos:Pos}
def N3 (ds:List D) (Γ:G) (Q:RV->G->Prop):Prop:=match ds with
 | [.str z]=>z.length=1/\Q (.fz (.int (z.cps.getD 0 0:Nat))) Γ
 | _=>False
noncomputable def scl:D->Option Str
 | .non=>some "None"
 | .bl c=>some (if c then "True" else "False")
 | .int i=>some (itx i)
 | .str z=>some (reprText z)
 | _=>none
noncomputable def rpr (d:D):Str:=(scl d).getD (shw d)
def okR (d:D):Prop:=(CP d=true\/d=.dct)/\Sh 10000000 20 d\/d=.non\/(∃ c,d=.bl c)\/(∃ i,d=.int i/\i.natAbs < 10 ^ 60)\/∃ z,d=.str z/\(reprText z).length<=sizeLine
def qd (ds:List D) (Γ:G) (Q:RV->G->Prop):Prop:=match ds with
 | [d]=>okR d/\Q (.fz (.str (rpr d))) Γ
 | _=>False
theorem pJ {k:Nat} (hK:X.K=K) (hr:bN k X.A):B3 K X (.builtin "repr") (fun xs H Q=>(∃ a d,xs=[.ref a]/\Dt K H (.ref a) d/\Shw d/\Q (.str d.shown) H)\/((xs=[.non]/\Q (.str "None") H)\/(∃ c,xs=[.bl c]/\Q (.str (if c then "True" else "False")) H)\/(∃ i,xs=[.int i]/\i.natAbs.log2 < 1920/\Q (.str (toString i)) H)\/∃ z,xs=[.str z]/\(reprText z).length<=sizeLine/\Q (.str (reprText z)) H)) qd:=
 ⟨by subst hK;exact bV.or (Bm hr) (Bl hr),by
 intro B F σ H Γ vs ds Q QQ e r q k;unfold qd at q;split at q
 ·obtain⟨hd,q⟩:=q;obtain⟨v,rfl,h⟩:=r.one;rcases hd with ⟨hs,sh⟩ | rfl | ⟨c,rfl⟩ | ⟨i,rfl,hi⟩ | ⟨z,rfl,hz⟩
  ·left
   have sp:=sh.spec;have fin:Shw (dt _):=⟨sp.sh,sp.dp,by rw[sizeLine_eq];have:=sp.ln;omega⟩;rename_i d;rcases hs with hs | rfl
   ·obtain⟨a,rfl,hd⟩:=sh.dtB hs e.sub h;have er:rpr d=shw d:=by cases d <;> first | rfl | cases hs
    rw[er] at q;exact⟨a,_,rfl,hd,fin,k _ _ (jG e q)⟩
   ·have h':Rep K F .dct v:=h;have hd:=sp.dt e.sub h';obtain⟨p,rfl,_⟩:=h';exact⟨p,_,rfl,hd,fin,k _ _ (jG e q)⟩
  ·cases h;exact .inr (.inl ⟨rfl,k _ _ (jG e q)⟩)
  ·cases h;exact .inr (.inr (.inl ⟨c,rfl,k _ _ (jG e q)⟩))
  ·cases h;exact .inr (.inr (.inr (.inl ⟨i,rfl,of_decide_eq_true (A6 hi),k _ _ (jG e q)⟩)))
  ·cases h;exact .inr (.inr (.inr (.inr ⟨z,rfl,hz,k _ _ (jG e q)⟩)))
 ·exact q.elim⟩
end
end L3
namespace L2
open PySem PySem.Spec PyProof.Rows
section
variable {X:Cx} {pins:Pn} {σ:St} {H:Hp} {s:Shared} {e C:Addr} {dx:Option Addr}
end
section
variable {X:Cx} {CX:CXT} {k:Nat} {f C:Addr} {fd:FuncData} {ps:Ls0} {sp:Sp} {dvs:List V} {ds:Lv0} {E':XK} {x:Str} {p cpos:Pos} {e:Expr} {es:List Expr} {t:TA}
end
end L2
namespace L3
open PySem L2 PySem.Spec PyProof.Rows
section
variable {K:Fg0} {X:Cx} {B:Bs} {F0:Hp} {k:Nat} {f C:Addr} {fd:FuncData} {ps ns:Ls0} {x:Str} {p cpos:Pos} {e:Expr} {es:List Expr} {t:TA} {t3:TA3}
end
section
variable {K:Fg0} {X:Cx} {e:Expr} {te:TE} {e3:TE3}
end
end L3
namespace L2
open PySem PySem.Spec PyProof.Rows
section
variable {K:Fg0} {U C D:Addr}
end
end L2
namespace L3
open PySem L2 PySem.Spec PyProof.Rows
section
variable {K:Fg0} {X:Cx} {k:Nat} {f C:Addr} {fd:FuncData} {ps:Ls0} {x:Str} {p cpos:Pos} {e:Expr} {es:List Expr} {t:TA} {t3:TA3}
end
section
variable {K:Fg0} {X:Cx} {pos p1 p2:Pos} {x y:Str}
end
section
variable {K:Fg0} {X:Cx} {F:Hp} {a b:Expr} {ta tb:TE} {a3 b3:TB3} {pos:Pos}
end
end L3
namespace L2
open PySem PySem.Spec PyProof.Rows
def DM (X:Cx) (L:Nat):Prop:=∀ (i:Nat) (x:Str),L<=i->X.N[i]?=some x->¬ Vis X.env.scope x
def Gh (L:Nat) (σ σ':St):Prop:=σ'.length=σ.length/\∀ i,i < L->σ'[i]?=σ[i]?
def tGh (L:Nat) (t:TS):TS:=fun D σ H=>∃ σ',Gh L σ σ'/\t D σ' H
section
variable {X:Cx} {pins:Pn} {σ σ':St} {H:Hp} {s:Shared} {L:Nat} {st:Stmt} {ss:List Stmt} {t:TS}
theorem Inv.ghost (I:Inv X pins σ H s) (P:DM X L) (g:Gh L σ σ'):Inv X pins σ' H s:=
 ⟨I.ok,I.os,I.bare,I.base,let ⟨m,hn,hl'⟩:=I.loc;⟨m,hn,fun i x v e1 e2 e3=>by
  by_cases lt:i < L
  ·exact hl' i x v e1 (by rw[<- g.2 i lt];exact e2) e3
  ·exact absurd e3 (P i x (Nat.le_of_not_lt lt) e1)⟩,I.cell,I.free,I.freeC,I.pin,I.hok,g.1.trans I.len⟩
theorem Et (P:DM X L) (h:PSs X ss t):PSs X ss (tGh L t):=fun pins s σ H D I ⟨σ',g,q⟩=>h pins s σ' H D (I.ghost P g) q
noncomputable def EB (N:Ls0) (sc:Scope) (L:Nat):Bool:=(N.drop L).all fun x=>(sc.names.lookup x).isNone
theorem BP {N:Ls0} (hN:X.N=N) (h:EB N X.env.scope L=true):DM X L:=fun i x le e v=>by
 subst hN;unfold EB at h;rw[List.all_eq_true] at h;have m:x∈X.N.drop L:=by
  have:(X.N.drop L)[i - L]?=some x:=by rw[List.getElem?_drop,Nat.add_sub_cancel' le];exact e
  exact List.mem_of_getElem? this
 have:=h x m;rcases v with v | v | v <;> rw[v] at this <;> cases this
end
end L2
namespace L3
open PySem L2 PySem.Spec PyProof.Rows
section
variable {K:Fg0} {X:Cx} {B:Bs} {F F':Hp} {σ σ':L2.St} {H:Hp} {Γ Γ':G} {pos:Pos}
def Wk (K:Fg0) (Γ Γ':G):Prop:=∀ (B:Bs) (F:Hp) (σ:L2.St) (H:Hp),En K B F σ H Γ->∃ F',aB F F'/\En K B F' σ H Γ'
theorem Wk.refl:Wk K Γ Γ:=fun B F σ H e=>⟨F,aB.refl F,e⟩
def wk3 (K:Fg0) (t3:TS3) (D:E3) (Γ:G):Prop:=∃ Γ',Wk K Γ Γ'/\t3 D Γ'
theorem IY {ss:List Stmt} {t:TS} {t3:TS3} (h:lR K X ss t t3):lR K X ss t (wk3 K t3):=⟨h.pe,fun B F σ H Γ D D3 e k Z=>by
 obtain⟨Γ',w,q⟩:=Z;obtain⟨F1,s1,e1⟩:=w B F σ H e;exact h.rf B F1 σ H Γ' D D3 e1 (k.mono s1) q⟩
theorem En.NB (e:En K B F σ H Γ) {i:Nat} {d d':D} (h:Γ[i]?=some (some (Sl.fz d))) (r:∀ v,σ[i]?=some (some v)->Rep K F d' v):En K B F σ H (Γ.set i (some (Sl.fz d'))):=by
 have il:i < Γ.length:=(gS0 h).1;have gt:∀ {j:Nat} {s:Sl},(Γ.set i (some (Sl.fz d')))[j]?=some (some s)->(j=i/\s=.fz d')\/(j≠i/\Γ[j]?=some (some s)):=fun {j s} q=>by
  by_cases z:j=i
  ·subst z;rw[aw il] at q;cases q;exact .inl ⟨rfl,rfl⟩
  ·rw[aC (Ne.symm z)] at q;exact .inr ⟨z,q⟩
 have hld:∀ {j:Nat} {x:D},Hld (Γ.set i (some (Sl.fz d'))) j x->Hld Γ j x:=fun {j x} q=>by
  rcases q with q | q <;> rcases gt q with ⟨_,z⟩ | ⟨_,z⟩
  ·cases z
  ·exact .inl z
  ·cases z
  ·exact .inr z
 refine⟨e.sub,by rw[List.length_set];exact e.len,fun j x q=>?_,fun j x q=>e.hl j x (hld q),fun j x p q a=>?_,fun j x p q a=>?_,fun j k x y p q1 q2=>e.dis j k x y p (hld q1) (hld q2),fun j p q=>?_,e.keep,e.new,e.rest,e.dom⟩
 ·rcases gt q with ⟨rfl,z⟩ | ⟨_,z⟩
  ·cases z;obtain⟨v,a,_⟩:=e.fz _ _ h;exact⟨v,a,r v a⟩
  ·exact e.fz j x z
 ·rcases gt q with ⟨_,z⟩ | ⟨_,z⟩
  ·cases z
  ·exact e.ow j x p z a
 ·rcases gt q with ⟨_,z⟩ | ⟨_,z⟩
  ·cases z
  ·exact e.ln j x p z a
 ·obtain⟨a,x,b⟩:=e.par j p q;have z:i≠j:=fun z=>by subst z;rw[h] at b;cases b
  exact⟨a,x,by rw[aC z];exact b⟩
theorem En.adr (e:En K B F σ H Γ) {i:Nat} {q:Addr} {xs:List D} (h:Hld Γ i (.cel q xs)):σ[i]?=some (some (V.ref q))/\F q=none/\∃ vs,H q=some (.lst vs)/\aD K F xs vs:=by
 obtain⟨p,a,b,rfl,vs,c,d⟩:=e.hl i _ h;exact⟨a,b,vs,c,d⟩
def IF (r:RV) (k:Addr->Prop):Prop:=match r with
 | .fz (.adr q)=>k q
 | _=>False
theorem IE {r:RV} {k:Addr->Prop} (h:IF r k):∃ q,r=.fz (.adr q)/\k q:=by
 cases r with
 | fz d=>cases d <;> first | exact h.elim | exact⟨_,rfl,h⟩
 | fr _=>exact h.elim
 | two _ _=>exact h.elim
 | rws _=>exact h.elim
def G6 (r:RV) (k:List (List D)->Prop):Prop:=match r with
 | .rws xss=>k xss
 | _=>False
theorem G5 {r:RV} {k:List (List D)->Prop} (h:G6 r k):∃ xss,r=.rws xss/\k xss:=by
 cases r with
 | rws xss=>exact⟨_,rfl,h⟩
 | fz _=>exact h.elim
 | fr _=>exact h.elim
 | two _ _=>exact h.elim
def vB (b:Bo) (k:Nat->Prop):Prop:=match b with
 | .v j=>k j
 | .d _=>False
def Nh (e3:TE3) (Γ:G) (Q:Bo->G->Prop):Prop:=e3 Γ fun r Γ1=>IF r fun q=>∃ j xs,Hld Γ1 j (.cel q xs)/\Q (.v j) Γ1
theorem bA {e:Expr} {te:TE} {e3:TE3} (h:P3 K X e te e3):P3B K X e te (Nh e3):=⟨h.pe,by
 intro B F σ H Γ Q QQ en q k;refine h.rf B F σ H Γ _ _ en q fun v H1 Z=>?_;obtain⟨F1,Γ1,r,s1,e1,rv,q1⟩:=Z;obtain⟨q',rfl,j,xs,hj,q1⟩:=IE q1;have hv:v=.ref q':=rv;subst hv;exact k _ _ ⟨F1,Γ1,.v j,s1,e1,(e1.adr hj).1,q1⟩⟩
noncomputable def Er (Γ:G) (j:Nat) (xs:List D):G:=match Γ[j]? with
 | some (some (.ow (.cel q _)))=>Γ.set j (some (.ow (.cel q xs)))
 | some (some (.ln (.cel q _)))=>Γ.set j (some (.ln (.cel q xs)))
 | _=>Γ
theorem Hh {j:Nat} {q:Addr} {xs ys:List D} (h:Hld Γ j (.cel q xs)):Er Γ j ys=putD Γ j (.cel q ys):=by
 rcases h with h | h <;> unfold Er putD <;> rw[h]
theorem En.NJ (e:En K B F σ H Γ) {j:Nat} {q:Addr} {xs ys:List D} {ws:List V} (h:Hld Γ j (.cel q xs)) (r:aD K F ys ws):En K B F σ (upd H q (.lst ws)) (Er Γ j ys):=by
 rw[Hh h];exact e.Mx h (e.adr h).1 ⟨rfl,ws,ar,r⟩
variable {o k e:Expr} {to tk te:TE} {o3 k3:TB3} {e3:TE3} {p2 apos cpos:Pos}
def IU (o3 k3:TB3) (e3:TE3) (D:E3) (Γ:G):Prop:=e3 Γ fun r Γ1=>o3 Γ1 fun bo Γ2=>vB bo fun j=>k3 Γ2 fun b Γ3=>∃ q xs k n,Hld Γ3 j (.cel q xs)/\b.at Γ3=some (.int k)/\ixN xs.length k=some n/\D.nx (Er Γ3 j (xs.set n r.d))
theorem G3 (ho:P3B K X o to o3) (hk:P3B K X k tk k3) (he:P3 K X e te e3)
  (ha:∀ v,assign (.Subscript o k p2) X.env v=(do
   let ov <- holding [v] (eval o X.env)
   let iv <- holding [v,ov] (eval k X.env)
   standAt p2
   holding [v,ov,iv] (setItem ov iv v)
   release [v,ov,iv] []):=by intro _;rfl)
  (hs:autoParam (swapsWithSole [.Subscript o k p2] e pos.line X.env=pure false) r0) (hw:autoParam (swappedStores [.Subscript o k p2] e X.env=pure none) r0)
  (h1:autoParam ((assignEach [.Subscript o k p2] X.env).map (·.2)=[assign (.Subscript o k p2) X.env]) r0) :
  P3S K X (.Assign [.Subscript o k p2] e pos) (hU te (uw to tk kL)) (IU o3 k3 e3):=⟨Ax he.pe (EE ho.pe hk.pe set_list ha) hs hw h1,fun B F σ H Γ D D3 en kk q=>
 he.rf B F σ H Γ _ _ en q fun v H' Z=>by
  obtain⟨F',Γ',r,s,e',rv,q'⟩:=Z;obtain⟨F2,s2,e2,r2⟩:=e'.frozen rv;refine ho.rf B F2 σ H' Γ' _ _ e2 q' fun w H2 Z=>?_;obtain⟨F3,Γ3,bo,s3,e3,rb,q3⟩:=Z;cases bo with
  | d _=>exact q3.elim
  | v j=>
   refine hk.rf B F3 σ H2 Γ3 _ _ e3 q3 fun u H3 Z=>?_;obtain⟨F4,Γ4,b4,s4,e4,rb4,q0,xs,kk',n,hj,hb,hn,q4⟩:=Z;obtain⟨a1,a2,vs,a3,a4⟩:=e4.adr hj;have hw:σ[j]?=some (some w):=rb;rw[a1] at hw;cases hw;have hu:u=.int kk':=e4.bo rb4 hb;exact⟨q0,vs,kk',n,rfl,hu,a3,by rw[a4.length];exact hn,kk.nx F4 σ _ _ (((s.trans s2).trans s3).trans s4) (e4.NJ hj (aD.set (r2.mono (s3.trans s4)) n a4)) q4⟩⟩
noncomputable def tE (σ:L2.St) (g:Nat):La0->L2.St
 | []=>σ
 | q::qs=>tE (σ.set g (some (V.ref q))) (g + 1) qs
noncomputable def i5 (Γ:G) (g:Nat):La0->List (List D)->G
 | q::qs,xs::xss=>i5 (Γ.set g (some (.ow (.cel q xs)))) (g + 1) qs xss
 | _,_=>Γ
theorem vH:∀ {qs:La0} {σ:L2.St} {g:Nat},(tE σ g qs).length=σ.length
 | [],_,_=>rfl
 | q::qs,σ,g=>by unfold tE;rw[vH,List.length_set]
theorem yO:∀ {qs:La0} {σ:L2.St} {g i:Nat},i < g->(tE σ g qs)[i]?=σ[i]?
 | [],_,_,_,_=>rfl
 | q::qs,σ,g,i,h=>by unfold tE;rw[yO (Nat.lt_succ_of_lt h),aC (Nat.ne_of_gt h)]
theorem yP {qs:La0} {g L:Nat} (h:L<=g):Gh L σ (tE σ g qs):=⟨vH,fun i lt=>yO (Nat.lt_of_lt_of_le lt h)⟩
theorem En.A8:∀ {qs:La0} {xss:List (List D)} {g:Nat} {σ:L2.St} {Γ:G},En K B F σ H Γ->cU K F H qs xss->qs.Nodup->(∀ z,z∈qs->F z=none/\B.H z=none/\∀ (i:Nat) (e:D),Hld Γ i e->σ[i]?≠some (some (V.ref z)))->
  (∀ k,k < qs.length->Γ[g + k]?=some none)->En K B F (tE σ g qs) H (i5 Γ g qs xss)
 | [],_,_,_,_,e,h,_,_,_=>by cases h;exact e
 | q::qs,_,g,σ,Γ,e,⟨xs,xt,vs,h1,h2,h3,h4⟩,nd,hn,hf=>by
  subst h1;obtain⟨n1,n2⟩:=List.nodup_cons.mp nd;obtain⟨a1,a2,a3⟩:=hn q (.head _);have fg:Γ[g]?=some none:=hf 0 (Nat.succ_pos _);have fr:bI Γ g:=by unfold bI;rw[fg];trivial
  have e1:=e.set (r:=.fr (.cel q xs)) fr ⟨q,rfl,a1,⟨rfl,vs,h2,h3⟩,a2,a3⟩;have il:=gR fr;have is:g < σ.length:=by rw[e.len];exact il
  refine En.A8 (qs:=qs) e1 h4 n2 (fun z hz=>?_) fun k hk=>?_
  ·obtain⟨b1,b2,b3⟩:=hn z (.tail _ hz);refine⟨b1,b2,fun i d hi=>?_⟩;by_cases w:i=g
   ·subst w;rw[aw is];intro y;cases y;exact n1 hz
   ·rw[aC (Ne.symm w)];exact b3 i d (by unfold Hld at hi ⊢;rw[aC (Ne.symm w)] at hi;exact hi)
  ·rw[aC (by omega),show g + 1 + k=g + (k + 1) by omega];exact hf (k + 1) (Nat.succ_lt_succ hk)
theorem oh:∀ {qs:La0},aD K F (qs.map D.adr) (qs.map V.ref)
 | []=>rfl
 | _::_=>⟨_,_,rfl,rfl,oh⟩
theorem cU.length:∀ {qs:La0} {xss:List (List D)},cU K F H qs xss->qs.length=xss.length
 | [],_,h=>by cases h;rfl
 | _::_,_,Z=>by obtain⟨xs,xt,vs,h1,_,_,h4⟩:=Z;subst h1;simp [h4.length]
def IT (g i:Nat) (e3:TE3) (u3:TS3) (D:E3) (Γ:G):Prop:=e3 Γ fun r Γ1=>G6 r fun xss=>bI Γ1 i/\(∀ k,k < xss.length + 1->Γ1[g + k]?=some none)/\∀ p qs,qs.length=xss.length->u3 D (i5 (Γ1.set i (some (.fz (.adr p)))) g (p::qs) (qs.map .adr::xss))
theorem He {x:Str} {px:Pos} {rest:List Stmt} {u:TS} {u3 x3:TS3} (L g i:Nat) (hL:L<=g) (hi:i < L) (P:DM X L) (hs:P3S K X (.Assign [.Name x px] e pos) (hU te (i9 i)) x3) (he:P3 K X e te e3) (h2:lR K X rest u u3) :
  lR K X (.Assign [.Name x px] e pos::rest) (CN (hU te (i9 i)) (tGh L u)) (IT g i e3 u3):=⟨oi hs.pe (Et P h2.pe),fun B F σ H Γ D D3 e k q=>he.rf B F σ H Γ _ _ e q fun v H' Z=>by
  obtain⟨F',Γ',r,s,e',rv,q'⟩:=Z;obtain⟨xss,rfl,hf,hfree,q'⟩:=G5 q';obtain⟨p,qs,rfl,h1,h2',h3,h4⟩:=rv;have e1:=e'.set (r:=.fz (.adr p)) hf rfl;have il:=gR hf;have e2:=e1.A8 (g:=g) (qs:=p::qs) (xss:=qs.map .adr::xss) ⟨_,_,_,rfl,h1,oh,h3⟩ h2' (fun z hz=>⟨(h4 z hz).1,(h4 z hz).2.1,fun j d hj=>by
   by_cases w:j=i
   ·subst w;rcases hj with hj | hj <;> rw[aw il] at hj <;> cases hj
   ·rw[aC (Ne.symm w)];exact(h4 z hz).2.2 j d (by unfold Hld at hj ⊢;rw[aC (Ne.symm w)] at hj;exact hj)⟩) fun k hk=>by
   rw[aC (by omega)];exact hfree k (by rw[<- h3.length];exact hk)
  exact⟨_,yP hL,h2.rf B F' _ H' _ D D3 e2 (k.mono s) (q' p qs h3.length)⟩⟩
end
noncomputable def Bs.rR (B:Bs):List (Addr×HO)->Bs
 | []=>B
 | (q,o)::l=>(Bs.rR B l).hid q o
section
variable {K:Fg0} {X:Cx} {B:Bs} {F F':Hp} {σ σ':L2.St} {H:Hp} {Γ Γ':G} {pos:Pos}
theorem Fu:∀ {l:List (Addr×HO)},(B.rR l).F=B.F
 | []=>rfl
 | _::l=>Fu (l:=l)
theorem zy:∀ {l:List (Addr×HO)},(B.rR l).own=B.own
 | []=>rfl
 | _::l=>zy (l:=l)
theorem Cd:∀ {l:List (Addr×HO)} {q:Addr},(B.rR l).H q=none->B.H q=none/\q∉l.map (·.1)
 | [],q,h=>⟨h,by simp⟩
 | (z,o)::l,q,h=>by
  have h:upd (B.rR l).H z o q=none:=h;have ne:q≠z:=fun w=>by rw[w,ar] at h;cases h
  rw[ah ne] at h;obtain⟨a,b⟩:=Cd h;exact⟨a,by rw[List.map_cons,List.mem_cons,not_or];exact⟨ne,b⟩⟩
theorem v7:∀ {l:List (Addr×HO)} {q:Addr},B.H q=none->q∉l.map (·.1)->(B.rR l).H q=none
 | [],q,h,_=>h
 | (z,o)::l,q,h,n=>by
  rw[List.map_cons,List.mem_cons,not_or] at n;show upd (B.rR l).H z o q=none;rw[ah n.1];exact v7 h n.2
theorem En.By:∀ {l:List (Addr×HO)},En K (B.rR l) F σ H Γ->(l.map (·.1)).Nodup->(∀ z,z∈l->B.H z.1=none/\B.F z.1=none/\∀ i,(i,z.1)∉B.own)->
  En K B F σ H Γ/\∀ z,z∈l->H z.1=some z.2/\F z.1=none/\∀ (i:Nat) (d:D),Hld Γ i d->σ[i]?≠some (some (V.ref z.1))
 | [],e,_,_=>⟨e,fun _ h=>nomatch h⟩
 | (q,o)::l,e,nd,hn=>by
  rw[List.map_cons,List.nodup_cons] at nd;obtain⟨b1,b2,b3⟩:=hn (q,o) (.head _);obtain⟨e1,h1,f1,n1⟩:=En.Ag (B:=B.rR l) e (v7 b1 nd.1) (by rw[Fu];exact b2) (by rw[zy];exact b3);obtain⟨e2,k2⟩:=En.By e1 nd.2 fun z hz=>hn z (.tail _ hz);refine⟨e2,fun z hz=>?_⟩;rcases List.mem_cons.mp hz with rfl | hz
  ·exact⟨h1,f1,n1⟩
  ·exact k2 z hz
def yo (fr:On) (i3:TI3) (g3:TG3) (e3:TE3) (Γ:G) (Q:RV->G->Prop):Prop:=i3 Γ fun xs Γ1=>xs.length < sizeLine/\∃ Iv:Nat->List (List D)->G->Prop,Iv 0 [] (dG Γ1 (dh fr))/\
 (∀ k d ys Γc,xs[k]?=some d->ys.length=k->Iv k ys Γc->g3 d Γc fun Γ2=>e3 Γ2 fun r Γ3=>frL r fun zs=>Iv (k + 1) (ys++[zs]) Γ3)/\∀ ys Γc,ys.length=xs.length->Iv xs.length ys Γc->Q (.rws ys) (bJ fr Γ1 Γc)
theorem cU.snoc:∀ {qs:La0} {xss:List (List D)} {q:Addr} {xs:List D} {vs:List V},cU K F H qs xss->H q=some (.lst vs)->aD K F xs vs->cU K F H (qs++[q]) (xss++[xs])
 | [],_,q,xs,vs,h,h1,h2=>by cases h;exact⟨xs,[],vs,rfl,h1,h2,rfl⟩
 | _::_,_,q,xs,vs,⟨ys,yt,ws,a1,a2,a3,a4⟩,h1,h2=>by subst a1;exact⟨ys,_,ws,rfl,a2,a3,cU.snoc a4 h1 h2⟩
def pZ (K:Fg0) (F:Hp):List (Addr×HO)->List (List D)->Prop
 | [],xss=>xss=[]
 | z::l,xss=>∃ xs xt vs,xss=xt++[xs]/\z.2=.lst vs/\aD K F xs vs/\pZ K F l xt
theorem pZ.mono (s:aB F F'):∀ {l:List (Addr×HO)} {xss:List (List D)},pZ K F l xss->pZ K F' l xss
 | [],_,h=>h
 | _::_,_,⟨xs,xt,vs,h1,h2,h3,h4⟩=>⟨xs,xt,vs,h1,h2,h3.mono s,pZ.mono s h4⟩
theorem pZ.at:∀ {l:List (Addr×HO)} {xss:List (List D)},pZ K F l xss->(∀ z,z∈l->H z.1=some z.2)->cU K F H (l.map (·.1)).reverse xss
 | [],_,h,_=>h
 | z::l,_,⟨xs,xt,vs,h1,h2,h3,h4⟩,hH=>by
  subst h1;rw[List.map_cons,List.reverse_cons];exact(pZ.at h4 fun y hy=>hH y (.tail _ hy)).snoc (by rw[hH z (.head _),h2]) h3
theorem CV {fr:On} {wi:TI} {i3:TI3} {g:TG} {g3:TG3} {te:TE} {e3:TE3} (nd:(fr.filterMap id).Nodup) (hi:GD K wi i3) (hg:DL K g g3) (he:Ref K te e3):Ref K (sY fr wi g te) (yo fr i3 g3 e3):=by
 intro B F σ H Γ Q QQ e q k;refine hi B F σ H Γ _ _ e q fun J H1 F1 Γ1 xs s1 e1 R Z=>?_;obtain⟨hz,Iv,i0,it,ie⟩:=Z;have eb:=e1.blk nd;refine⟨fun i m ys σc H=>m=xs.length - i/\i<=xs.length/\∃ F' Γc ds l,aB F1 F'/\En K ((Bs.mk F1 H1 (ownOf Γ1 σ (dh fr))).rR l) F' σc H Γc/\ys=((l.map (·.1)).reverse).map V.ref/\(l.map (·.1)).Nodup/\(∀ z,z∈l->H1 z.1=none)/\pZ K F' l ds/\l.length=i/\ds.length=i/\Iv i ds Γc,
  ⟨_,rfl,Nat.zero_le _,F1,_,[],[],aB.refl _,eb,rfl,by simp,(fun _ h=>nomatch h),rfl,rfl,rfl,i0⟩,?_⟩
 rintro i m ys σc H2 ⟨rfl,hi',F2,Γ2,ds,l,s2,e2,rfl,nd2,new2,r2,hl2,hl,iv⟩;refine⟨by simp [hl2];omega,?_⟩;have cond:∀ z,z∈l->(Bs.mk F1 H1 (ownOf Γ1 σ (dh fr))).H z.1=none/\(Bs.mk F1 H1 (ownOf Γ1 σ (dh fr))).F z.1=none/\∀ j,(j,z.1)∉(Bs.mk F1 H1 (ownOf Γ1 σ (dh fr))).own:=fun z hz=>by
  have h1:=new2 z hz;refine⟨h1,e1.nof h1,fun j hj=>?_⟩;obtain⟨i',d,_,h5,h6⟩:=l7.mp hj;exact e1.uc h1 i' d h5 h6
 by_cases lt:i < xs.length
 ·refine .inr ⟨R.go i H2 (s2.trans e2.sub) lt,fun x H3 y=>?_⟩;have hd:xs[i]?=some xs[i]:=gE0 lt;obtain⟨F3,s3,e3',r3⟩:=R.turn s2 e2 hd y;refine hg _ F3 σc H3 Γ2 x _ _ _ e3' r3 (it i _ ds Γ2 hd hl iv) fun σ2 Γ4 e4 q4=>?_;refine⟨fun y H5=>∃ F5 Γ5 r,aB F3 F5/\En K ((Bs.mk F1 H1 (ownOf Γ1 σ (dh fr))).rR l) F5 σ2 H5 Γ5/\mE K ((Bs.mk F1 H1 (ownOf Γ1 σ (dh fr))).rR l) F5 σ2 H5 Γ5 y r/\frL r fun zs=>Iv (i + 1) (ds++[zs]) Γ5,fun y H5 Z=>?_,he _ F3 σ2 H3 Γ4 _ _ e4 q4 fun v H' p=>p⟩;obtain⟨F5,Γ5,r,s5,e5,rv,iv5⟩:=Z;obtain⟨zs,rfl,iv5⟩:=qt iv5;obtain⟨p,rfl,f5,⟨vs,h5,r5⟩,b5,n5⟩:=rv;obtain⟨b6,b7⟩:=Cd b5;refine⟨xs.length - (i + 1),by omega,rfl,lt,F5,Γ5,ds++[zs],(p,.lst vs)::l,((s2.trans s3).trans s5),e5.hide f5 h5 n5,by simp,?_,?_,⟨zs,ds,vs,rfl,rfl,r5,r2.mono (s3.trans s5)⟩,by simp [hl2],by simp [hl],iv5⟩
  ·rw[List.map_cons,List.nodup_cons];exact⟨b7,nd2⟩
  ·intro z hz;rcases List.mem_cons.mp hz with rfl | hz
   ·exact b6
   ·exact new2 z hz
 ·have z:i=xs.length:=by omega
  subst z;refine .inl ⟨R.stop _ H2 (s2.trans e2.sub) rfl,fun l' hl'=>k _ _ ?_⟩;obtain⟨e3,k3⟩:=e2.By nd2 cond;have eo:En K B F2 σ H2 (bJ fr Γ1 Γ2):=e1.back (ls:=fr) e3 (by have:=ou (Γ:=Γ1) (σ:=σ) (bs:=dh fr);rw[uk] at this;exact this);have nh:∀ {p:Addr},H1 p=none->∀ (i:Nat) (x:D),Hld (bJ fr Γ1 Γ2) i x->σ[i]?≠some (some (V.ref p)):=fun {p} h4' i x hx hp=>by
   obtain⟨d0,w⟩:∃ d0,Hld Γ1 i d0:=by
    rcases hx with hx | hx <;> rw[dN] at hx
    ·cases w:Γ1[i]? with
     | none=>rw[w] at hx;cases hx
     | some s=>rw[w] at hx;cases s with
      | none=>cases hx
      | some s=>cases s with
       | fz d=>cases hx
       | ow d=>exact⟨d,.inl w⟩
       | ln d=>cases hx
    ·cases w:Γ1[i]? with
     | none=>rw[w] at hx;cases hx
     | some s=>rw[w] at hx;cases s with
      | none=>cases hx
      | some s=>cases s with
       | fz d=>cases hx
       | ow d=>cases hx
       | ln d=>exact⟨d,.inr w⟩
   exact e1.uc h4' i d0 w hp
  have mem:∀ {z:Addr},z∈(l.map (·.1)).reverse->∃ o,(z,o)∈l:=fun {z} hz=>by
   rw[List.mem_reverse,List.mem_map] at hz;obtain⟨⟨y,o⟩,hy,rfl⟩:=hz;exact⟨o,hy⟩
  refine⟨F2,_,.rws ds,s1.trans s2,eo.alloc hl' _,⟨l',(l.map (·.1)).reverse,rfl,ar,?_,?_,fun z hz=>?_⟩,ie ds Γ2 hl iv⟩
  ·rw[List.nodup_cons];refine⟨fun hz=>?_,List.pairwise_reverse.mpr (nd2.imp fun h=>Ne.symm h)⟩;obtain⟨o,ho⟩:=mem hz;rw[(k3 _ ho).1] at hl';cases hl'
  ·refine(r2.at fun z hz=>(k3 z hz).1).mono (aB.refl F2) fun z hz=>?_;obtain⟨o,ho⟩:=mem hz;exact ah (aF (k3 _ ho).1 hl')
  ·rcases List.mem_cons.mp hz with rfl | hz
   ·exact⟨eo.nof hl',eo.dom _ hl',eo.uc hl'⟩
   ·obtain⟨o,ho⟩:=mem hz;have h1:=new2 _ ho;exact⟨(k3 _ ho).2.1,e1.dom _ h1,nh h1⟩
theorem y8 {elt iter tg:Expr} {sc:Scope} {Nc:Ls0} {fr:On} {wi:TI} {i3:TI3} {g:TG} {g3:TG3} {te:TE} {e3:TE3} (hc:X.calm=true) (hi:P3I K X tg iter wi i3) (Bk:Blk X.N X.env.scope sc Nc fr)
  (hg:∀ s₀ H₀ C ex pn,P3G K (br X sc Nc s₀ H₀ C ex pn) tg g g3) (he:∀ s₀ H₀ C ex pn,P3 K (br X sc Nc s₀ H₀ C ex pn) elt te e3) (nd:autoParam ((fr.filterMap id).Nodup) d0) (hs:autoParam (∀ x,foldedSetIterable iter X.env x=pure x) j0) :
  P3 K X (.ListComp elt [⟨tg,iter,[],0⟩] sc pos) (sY fr wi g te) (yo fr i3 g3 e3):=
 ⟨BQ hc hi.pe Bk (fun a b c d e=>(hg a b c d e).pe) (fun a b c d e=>(he a b c d e).pe) hs,CV nd hi.rf (hg X.s₀ X.H₀ 0 [] []).rf (he X.s₀ X.H₀ 0 [] []).rf⟩
theorem En.weak (e:En K B F σ H Γ) (hl:Γ'.length=Γ.length) (h:∀ (k:Nat) (s:Sl),Γ'[k]?=some (some s)->Γ[k]?=some (some s)) (hn:∀ (k:Nat) (d:D),Γ[k]?=some (some (Sl.ln d))->Γ'[k]?=Γ[k]?):En K B F σ H Γ':=by
 have hld:∀ {j:Nat} {x:D},Hld Γ' j x->Hld Γ j x:=fun q=>q.imp (h _ _) (h _ _);exact⟨e.sub,by rw[hl];exact e.len,fun j d q=>e.fz j d (h _ _ q),fun j d q=>e.hl j d (hld q),fun j d p q=>e.ow j d p (h _ _ q),fun j d p q=>e.ln j d p (h _ _ q),fun j k d d' p q1 q2=>e.dis j k d d' p (hld q1) (hld q2),
  fun j p q=>by
   obtain⟨a,d,b⟩:=e.par j p q;exact⟨a,d,by rw[hn j d b];exact b⟩,e.keep,e.new,e.rest,e.dom⟩
noncomputable def c9 (Γ:G) (g:Nat):Nat->G
 | 0=>Γ
 | n + 1=>c9 (Γ.set g none) (g + 1) n
theorem ku:∀ {n:Nat} {Γ:G} {g i:Nat},i < g->(c9 Γ g n)[i]?=Γ[i]?
 | 0,_,_,_,_=>rfl
 | n + 1,Γ,g,i,h=>by unfold c9;rw[ku (Nat.lt_succ_of_lt h),aC (Nat.ne_of_gt h)]
theorem p7:∀ {n:Nat} {Γ:G} {g:Nat},(c9 Γ g n).length=Γ.length
 | 0,_,_=>rfl
 | n + 1,Γ,g=>by unfold c9;rw[p7,List.length_set]
theorem tG:∀ {n:Nat} {Γ:G} {g i:Nat},g + n<=i->(c9 Γ g n)[i]?=Γ[i]?
 | 0,_,_,_,_=>rfl
 | n + 1,Γ,g,i,h=>by unfold c9;rw[tG (by omega),aC (by omega)]
theorem tH:∀ {n:Nat} {Γ:G} {g i:Nat},g<=i->i < g + n->i < Γ.length->(c9 Γ g n)[i]?=some none
 | 0,_,_,_,h,h',_=>by omega
 | n + 1,Γ,g,i,h,h',hl=>by
  unfold c9;by_cases z:i=g
  ·subst z;rw[ku (Nat.lt_succ_self _),aw hl]
  ·exact tH (by omega) (by omega) (by rw[List.length_set];exact hl)
theorem En.mq:∀ {qs:La0} {xss:List (List D)} {g:Nat} {F:Hp} {Γ:G},En K B F σ H Γ->xss.length=qs.length->(∀ k q xs,qs[k]?=some q->xss[k]?=some xs->Γ[g + k]?=some (some (Sl.ow (.cel q xs))))->
  ∃ F',aB F F'/\En K B F' σ H (c9 Γ g qs.length)/\aD K F' (xss.map .lst) (qs.map V.ref)/\∀ b o,F' b=some o->F b=some o\/(b∈qs/\∃ vs,o=.lst vs)
 | [],[],g,F,Γ,e,_,_=>⟨F,aB.refl F,e,rfl,fun b o h=>.inl h⟩
 | q::qs,xs::xss,g,F,Γ,e,hl,h=>by
  have h0:Γ[g]?=some (some (Sl.ow (.cel q xs))):=h 0 q xs rfl rfl;obtain⟨a1,a2,vs,a3,a4⟩:=e.adr (.inl h0);obtain⟨p,b1,b2,b3⟩:=e.hl g _ (.inl h0);have e1:=e.forget (i:=g) (by unfold bI;rw[h0];trivial);have nh:∀ (i:Nat) (d:D),Hld (Γ.set g none) i d->σ[i]?≠some (some (V.ref q)):=fun i d hi z=>by
   have il:g < Γ.length:=(gS0 h0).1;have ne:i≠g:=fun w=>by subst w;rcases hi with hi | hi <;> rw[aw il] at hi <;> cases hi
   have hi':Hld Γ i d:=by unfold Hld at hi ⊢;rw[aC (Ne.symm ne)] at hi;exact hi
   exact ne (e.dis i g d _ q hi' (.inl h0) z a1)
  have e2:=e1.freeze a2 a3 (e.ow g _ q h0 a1) nh;have s1:=aY (o:=.lst vs) a2;obtain⟨F',s',e',r',k'⟩:=En.mq (qs:=qs) (xss:=xss) (g:=g + 1) e2 (by simpa using hl) fun k q' xs' hq hx=>by
   rw[aC (by omega),show g + 1 + k=g + (k + 1) by omega];exact h (k + 1) q' xs' (by simpa using hq) (by simpa using hx)
  refine⟨F',s1.trans s',e',⟨_,_,rfl,⟨q,vs,rfl,s' _ _ ar,a4.mono (s1.trans s')⟩,r'⟩,fun b o hb=>?_⟩;rcases k' b o hb with w | ⟨w,v⟩
  ·by_cases z:b=q
   ·subst z;rw[ar] at w;cases w;exact .inr ⟨.head _,vs,rfl⟩
   ·rw[ah z] at w;exact .inl w
  ·exact .inr ⟨.tail _ w,v⟩
structure u5 (Γ:G) (i g:Nat) (p:Addr) (qs:La0) (xss:List (List D)):Prop where
 nm:Γ[i]?=some (some (Sl.fz (.adr p)))
 lt:i < g
 at0:Γ[g]?=some (some (Sl.ow (.cel p (qs.map .adr))))
 len:xss.length=qs.length
 ats:∀ k q xs,qs[k]?=some q->xss[k]?=some xs->Γ[g + 1 + k]?=some (some (Sl.ow (.cel q xs)))
noncomputable def Dy (Γ:G) (i g n:Nat) (xss:List (List D)):G:=(c9 Γ g (n + 1)).set i (some (.fz (.lst (xss.map .lst))))
theorem En.Dy {i g:Nat} {p:Addr} {qs:La0} {xss:List (List D)} (e:En K B F σ H Γ) (h:u5 Γ i g p qs xss) :
  ∃ F',aB F F'/\En K B F' σ H (Dy Γ i g qs.length xss)/\∀ b o,F' b=some o->F b=some o\/(b∈p::qs/\∃ vs,o=.lst vs):=by
 have il:g < Γ.length:=(gS0 h.at0).1;obtain⟨a1,a2,vs,a3,a4⟩:=e.adr (.inl h.at0);obtain⟨u,b1,b2⟩:=e.fz i _ h.nm;cases (show u=V.ref p from b2);have e1:=e.forget (i:=g) (by unfold bI;rw[h.at0];trivial);have nh:∀ (i:Nat) (d:D),Hld (Γ.set g none) i d->σ[i]?≠some (some (V.ref p)):=fun i d hi z=>by
  have ne:i≠g:=fun w=>by subst w;rcases hi with hi | hi <;> rw[aw il] at hi <;> cases hi
  have hi':Hld Γ i d:=by unfold Hld at hi ⊢;rw[aC (Ne.symm ne)] at hi;exact hi
  exact ne (e.dis i g d _ p hi' (.inl h.at0) z a1)
 have e2:=e1.freeze a2 a3 (e.ow g _ p h.at0 a1) nh;have s1:=aY (o:=.lst vs) a2;obtain⟨F',s',e',r',k'⟩:=e2.mq (qs:=qs) (xss:=xss) (g:=g + 1) h.len fun k q xs hq hx=>by
  rw[aC (by omega)];exact h.ats k q xs hq hx
 have vq:vs=qs.map V.ref:=by
  have go:∀ {qs:La0} {vs:List V},aD K F (qs.map D.adr) vs->vs=qs.map V.ref:=by
   intro qs
   induction qs with
   | nil=>intro vs h;exact h
   | cons q qs ih=>
    intro vs h;obtain⟨v,ws,rfl,r1,r2⟩:=h;rw[show v=V.ref q from r1,ih r2];rfl
  exact go a4
 refine⟨F',s1.trans s',?_,fun b o hb=>?_⟩
 ·refine e'.NB (i:=i) (d:=.adr p) ?_ fun v hv=>?_
  ·rw[ku (Nat.lt_succ_of_lt h.lt),aC (Nat.ne_of_gt h.lt)];exact h.nm
  ·rw[b1] at hv;cases hv;exact⟨p,vs,rfl,s' _ _ ar,by rw[vq];exact r'⟩
 ·rcases k' b o hb with w | ⟨w,v⟩
  ·by_cases z:b=p
   ·subst z;rw[ar] at w;cases w;exact .inr ⟨.head _,vs,rfl⟩
   ·rw[ah z] at w;exact .inl w
  ·exact .inr ⟨.tail _ w,v⟩
theorem JT {i g:Nat} {p:Addr} {qs:La0} {xss:List (List D)} (h:u5 Γ i g p qs xss):Wk K Γ (Dy Γ i g qs.length xss):=fun B F σ H e=>by
 obtain⟨F',s,e',_⟩:=e.Dy h;exact⟨F',s,e'⟩
end
section
variable {P:Program} {w:World} {K:Fg0} {mg:SV} {base:Heap}
end
theorem HK {ls:On} {cs:G} {j:Nat} (h:∀ k:Nat,ls[k]?≠some (some j)):newD ls cs j=none:=by
 cases q:newD ls cs j with
 | none=>rfl
 | some d=>obtain⟨k,a,_⟩:=gp q;exact absurd a (h k)
section
variable {K:Fg0} {X:Cx} {B:Bs} {F F':Hp} {σ σ':L2.St} {H:Hp} {Γ Γ':G} {pos:Pos}
variable {k L n:Nat} {f:Addr} {fd:FuncData} {ps:Ls0} {x:Str} {p:Pos} {e:Expr} {es:List Expr} {t:TA} {t3:eA} {S:S3}
end
section
variable {K:Fg0} {X:Cx} {B:Bs} {F F':Hp} {σ σ':L2.St} {H:Hp} {Γ Γ':G} {pos:Pos}
end
section
variable {K:Fg0} {B:Bs} {F F':Hp} {σ σ':L2.St} {H:Hp} {Γ Γ':G}
variable {P:Program} {w:World} {mg:SV} {base:Heap}
end
end L3
namespace L2
open PySem PySem.Spec PyProof.Rows
section
variable {X:Cx}
end
end L2
namespace L3
open PySem L2 PySem.Spec PyProof.Rows
section
variable {K:Fg0} {X:Cx} {B:Bs} {F F':Hp} {σ σ':L2.St} {H:Hp} {Γ Γ':G} {pos:Pos}
end
theorem pR {xs:List D}:bare (.lst xs)=.lst xs:=rfl
theorem pS {C:Addr} {ns:Ls0} {xs:List D}:bare (.ins C ns xs)=.ins C ns xs:=rfl
theorem pT {q:Addr} {xs:List D}:bare (.cel q xs)=.lst xs:=rfl
noncomputable def tlG (T:G):G:=T
noncomputable def nn (m:Nat):G:=List.replicate m none
noncomputable def tlE:G:=[]
noncomputable def phs (m:Nat):Ls0:=(List.range m).map fun i=>⟨#[0,i]⟩
theorem An {N:Ls0} {Γa:G} {m:Nat} (h:Γa.length<=N.length):dd (N++phs m) Γa=Γa++(List.replicate (N.length - Γa.length) none++tlG (nn m++tlE)):=by
 unfold dd phs nn tlG tlE;rw[List.append_nil,List.length_append,lM0,List.length_range,List.replicate_append_replicate,show N.length + m - Γa.length=N.length - Γa.length + m by omega]
noncomputable def uX (k:Nat) (ls:On) (Γ cs:G):G:=Γ.mapIdx fun i s=>ka (newD ls cs (i + k)) s
noncomputable def lsB:On->Nat->Bool
 | [],_=>true
 | none::l,k=>lsB l k
 | some j::l,k=>decide (j < k) && lsB l k
section
variable {Γ cs T:G} {ls:On} {k:Nat} {s:Option Sl}
theorem sQ:bJ ls Γ cs=uX 0 ls Γ cs:=rfl
theorem mf:uX k ls [] cs=[]:=rfl
theorem jQ:uX k ls (s::Γ) cs=ka (newD ls cs k) s::uX (k + 1) ls Γ cs:=by
 unfold uX;rw[List.mapIdx_cons,Nat.zero_add]
 congr 2
 funext i s
 rw[Nat.add_right_comm,Nat.add_assoc]
theorem AZ:∀ {ls:On},lsB ls k=true->∀ {j:Nat},k<=j->∀ a:Nat,ls[a]?≠some (some j)
 | [],_,j,_,a,h=>by simp at h
 | none::l,hb,j,hj,0,h=>by simp at h
 | none::l,hb,j,hj,a + 1,h=>AZ (ls:=l) hb hj a (by simpa using h)
 | some i::l,hb,j,hj,0,h=>by
  have hb:(decide (i < k) && lsB l k)=true:=hb;rw[Bool.and_eq_true] at hb;have:=of_decide_eq_true hb.1;simp at h;omega
 | some i::l,hb,j,hj,a + 1,h=>by
  have hb:(decide (i < k) && lsB l k)=true:=hb;rw[Bool.and_eq_true] at hb;exact AZ (ls:=l) hb.2 hj a (by simpa using h)
theorem Bt {s:Option Sl}:ka none s=s:=by
 cases s with
 | none=>rfl
 | some s=>cases s <;> rfl
theorem pU (h:lsB ls k=true):uX k ls (tlG T) cs=tlG T:=by
 unfold uX tlG;apply List.ext_getElem?;intro i;rw[List.getElem?_mapIdx,HK fun a=>AZ h (Nat.le_add_left k i) a];cases T[i]? with
 | none=>rfl
 | some s=>simp [Bt]
theorem sD:lsB [] k=true:=rfl
theorem oP {l:On}:lsB (none::l) k=lsB l k:=rfl
theorem oO {l:On} {j:Nat}:lsB (some j::l) k=(decide (j < k) && lsB l k):=rfl
end
section
variable {fr:On} {i3:TI3} {g3:TG3} {e3:TE3} {o3 k3:TB3} {b3 u3 t3:TS3} {Γ:G} {Q:RV->G->Prop} {D1:E3} {K:Fg0}
def FR (fr:On) (i3:TI3) (g3:TG3) (e3:TE3) (Γ:G) (Q:RV->G->Prop) (_:Tag (fr,i3,g3,e3)) (_:Tag Q):Prop:=yo fr i3 g3 e3 Γ Q
theorem sO:yo fr i3 g3 e3 Γ Q=FR fr i3 g3 e3 Γ Q ⟨⟩ ⟨⟩:=rfl
abbrev hR (Iv:Nat->List (List D)->G->Prop) (k:Nat) (ys:List (List D)) (Γ:G) (_:Tag Iv):Prop:=Iv k ys Γ
def FQ (xs:List D) (Γ1:G) (fr:On) (g3:TG3) (e3:TE3) (Q:RV->G->Prop) (_:Tag (fr,g3,e3,Q)):Prop:=∃ Iv:Nat->List (List D)->G->Prop,Iv 0 [] (dG Γ1 (dh fr))/\
 (∀ k d ys Γc,xs[k]?=some d->ys.length=k->Iv k ys Γc->g3 d Γc fun Γ2=>e3 Γ2 fun r Γ3=>frL r fun zs=>Iv (k + 1) (ys++[zs]) Γ3)/\∀ ys Γc,ys.length=xs.length->Iv xs.length ys Γc->Q (.rws ys) (bJ fr Γ1 Γc)
theorem sJ {t1:Tag (fr,i3,g3,e3)} {t2:Tag Q}:FR fr i3 g3 e3 Γ Q t1 t2=(i3 Γ fun xs Γ1=>xs.length < sizeLine/\FQ xs Γ1 fr g3 e3 Q ⟨⟩):=rfl
theorem wB {xs:List D} {Γ1:G} {t:Tag (fr,g3,e3,Q)} (Iv:Nat->List (List D)->G->Prop) (h0:Iv 0 [] (dG Γ1 (dh fr)))
  (hs:∀ k d ys Γc,xs[k]?=some d->ys.length=k->Iv k ys Γc->g3 d Γc fun Γ2=>e3 Γ2 fun r Γ3=>frL r fun zs=>hR Iv (k + 1) (ys++[zs]) Γ3 ⟨⟩) (he:∀ ys Γc,ys.length=xs.length->Iv xs.length ys Γc->Q (.rws ys) (bJ fr Γ1 Γc)):FQ xs Γ1 fr g3 e3 Q t:=⟨Iv,h0,hs,he⟩
def NN (j:Nat) (ob:Option D) (d:D) (Γ:G) (N:G->Prop) (_:Tag N):Prop:=∃ q xs k n,Hld Γ j (.cel q xs)/\ob=some (.int k)/\ixN xs.length k=some n/\N (Er Γ j (xs.set n d))
theorem xT:IU o3 k3 e3 D1 Γ=(e3 Γ fun r Γ1=>o3 Γ1 fun bo Γ2=>vB bo fun j=>k3 Γ2 fun b Γ3=>NN j (b.at Γ3) r.d Γ3 D1.nx ⟨⟩):=rfl
theorem yJ {q:Addr} {k:Addr->Prop}:IF (.fz (.adr q)) k=k q:=rfl
theorem w_ {xss:List (List D)} {k:List (List D)->Prop}:G6 (.rws xss) k=k xss:=rfl
theorem GN {j:Nat} {k:Nat->Prop}:vB (.v j) k=k j:=rfl
def NO (q:Addr) (Γ:G) (Q:Bo->G->Prop) (_:Tag Q):Prop:=∃ j xs,Hld Γ j (.cel q xs)/\Q (.v j) Γ
theorem xX {QB:Bo->G->Prop}:Nh e3 Γ QB=(e3 Γ fun r Γ1=>IF r fun q=>NO q Γ1 QB ⟨⟩):=rfl
def L5 (g i:Nat) (xss:List (List D)) (Γ1:G) (u3:TS3) (E1:E3) (_:Tag (u3,E1)):Prop:=bI Γ1 i/\(∀ k,k < xss.length + 1->Γ1[g + k]?=some none)/\∀ p qs,qs.length=xss.length->u3 E1 (i5 (Γ1.set i (some (.fz (.adr p)))) g (p::qs) (qs.map .adr::xss))
theorem xS {g i:Nat}:IT g i e3 u3 D1 Γ=(e3 Γ fun r Γ1=>G6 r fun xss=>L5 g i xss Γ1 u3 D1 ⟨⟩):=rfl
def wkH (K:Fg0) (t3:TS3) (E1:E3) (Γ:G) (_:Tag (t3,E1)):Prop:=wk3 K t3 E1 Γ
theorem H_:wk3 K t3 D1 Γ=wkH K t3 D1 Γ ⟨⟩:=rfl
theorem IK {t:Tag (t3,D1)} {Γ':G} (h:Wk K Γ Γ') (q:t3 D1 Γ'):wkH K t3 D1 Γ t:=⟨Γ',h,q⟩
end
noncomputable def gh (c:D->Sl) (p:Addr) (ds:List D) (qs:La0) (xss:List (List D)):G:=some (c (.cel p ds))::List.zipWith (fun q xs=>some (c (.cel q xs))) qs xss
section
variable {c:D->Sl} {p q:Addr} {ds:List D} {qs:La0} {xs ys:List D} {xss:List (List D)} {T T' pre:G} {L g n m y:Nat} {K:Fg0}
theorem Fz (h:qs.length=xss.length):(gh c p ds qs xss).length=qs.length + 1:=by
 unfold gh;rw[List.length_cons,List.length_zipWith,<- h,Nat.min_self]
theorem MV (hq:qs[y]?=some q) (hx:xss[y]?=some xs):(gh c p ds qs xss++T)[1 + y]?=some (some (c (.cel q xs))):=by
 rw[Nat.add_comm];unfold gh;rw[List.cons_append,List.getElem?_cons_succ,List.getElem?_append_left (by
  rw[List.length_zipWith];have:=(gS0 hq).1;have:=(gS0 hx).1;omega),List.getElem?_zipWith,hq,hx]
theorem yH {j:Nat} (h:pre.length=L):(pre++T)[L + j]?=T[j]?:=by
 subst h;rw[List.getElem?_append_right (Nat.le_add_right _ _),Nat.add_sub_cancel_left]
theorem BC {j:Nat} {s:Option Sl} (h:pre.length=L):(pre++T).set (L + j) s=pre++T.set j s:=by
 subst h;rw[List.set_append_right _ _ (Nat.le_add_right _ _),Nat.add_sub_cancel_left]
theorem vI:∀ {qs:La0} {xss:List (List D)} {T:G} {g:Nat},pre.length=L->i5 (pre++T) (L + g) qs xss=pre++i5 T g qs xss
 | [],_,_,_,_=>by unfold i5;rfl
 | _::_,[],_,_,_=>by unfold i5;rfl
 | q::qs,x::xss,T,g,h=>by
  unfold i5;rw[BC h,show L + g + 1=L + (g + 1) by omega,vI h]
theorem yQ:∀ {qs:La0} {xss:List (List D)} {m:Nat} {A:G},qs.length=xss.length->qs.length<=m->i5 (A++(nn m++T)) A.length qs xss=A++(List.zipWith (fun q xs=>some (Sl.ow (.cel q xs))) qs xss++(nn (m - qs.length)++T))
 | [],[],m,A,_,_=>rfl
 | q::qs,x::xss,0,A,_,h=>by simp at h
 | q::qs,x::xss,m + 1,A,hl,h=>by
  unfold i5;have e:(A++(nn (m + 1)++T)).set A.length (some (Sl.ow (.cel q x)))=(A++[some (Sl.ow (.cel q x))])++(nn m++T):=by
   rw[List.set_append_right _ _ (Nat.le_refl _),Nat.sub_self];unfold nn;rw[List.replicate_succ];simp
  rw[e,show A.length + 1=(A++[some (Sl.ow (D.cel q x))]).length by simp,yQ (by simpa using hl) (by simpa using h)];simp
theorem yR (h:pre.length=L) (hl:qs.length=xss.length) (hm:qs.length + 1<=m):i5 (pre++tlG (nn m++T)) L (p::qs) (qs.map .adr::xss)=pre++tlG (gh .ow p (qs.map .adr) qs xss++(nn (m - (qs.length + 1))++T)):=by
 unfold tlG;have:=vI (pre:=pre) (L:=L) (g:=0) (T:=nn m++T) (qs:=p::qs) (xss:=qs.map .adr::xss) h;rw[Nat.add_zero] at this;rw[this];have e:=yQ (T:=T) (A:=[]) (qs:=p::qs) (xss:=qs.map .adr::xss) (m:=m) (by simp [hl]) (by simpa using hm);simp only[List.nil_append,List.length_nil] at e;rw[e];simp [gh]
theorem Mp {k:Nat} (h:k < m):(nn m++T)[k]?=some none:=by
 unfold nn;rw[List.getElem?_append_left (by simpa using h),List.getElem?_replicate,if_pos h]
theorem HI (h:pre.length=L) (hm:n<=m):∀ k,k < n->(pre++tlG (nn m++T))[L + k]?=some none:=fun k hk=>by
 unfold tlG;rw[yH h];exact Mp (Nat.lt_of_lt_of_le hk hm)
theorem p8:∀ {n:Nat} {T:G} {g:Nat},pre.length=L->c9 (pre++T) (L + g) n=pre++c9 T g n
 | 0,_,_,_=>rfl
 | n + 1,T,g,h=>by
  unfold c9;rw[BC h,show L + g + 1=L + (g + 1) by omega,p8 h]
theorem tF:∀ {n:Nat} {A Z:G},Z.length=n->c9 (A++(Z++T)) A.length n=A++(nn n++T)
 | 0,A,[],_=>rfl
 | n + 1,A,[],h=>by simp at h
 | 0,A,z::Z,h=>by simp at h
 | n + 1,A,z::Z,h=>by
  unfold c9;have e:(A++(z::Z++T)).set A.length none=(A++[none])++(Z++T):=by
   rw[List.set_append_right _ _ (Nat.le_refl _),Nat.sub_self];simp
  rw[e,show A.length + 1=(A++[none]).length by simp,tF (by simpa using h)];unfold nn;rw[List.replicate_succ];simp
theorem E7 {a b:Nat}:nn a++(nn b++T)=nn (a + b)++T:=by
 unfold nn;rw[<- List.append_assoc,List.replicate_append_replicate]
theorem Ig {i:Nat} (h:pre.length=L) (hi:i < L) (hl:qs.length=xss.length):Dy (pre++tlG (gh .ow p ds qs xss++(nn m++T))) i L qs.length xss=pre.set i (some (.fz (.lst (xss.map .lst))))++tlG (nn (qs.length + 1 + m)++T):=by
 unfold Dy tlG;have e:=p8 (pre:=pre) (L:=L) (g:=0) (T:=gh .ow p ds qs xss++(nn m++T)) (n:=qs.length + 1) h;rw[Nat.add_zero] at e;rw[e];have e2:=tF (T:=nn m++T) (A:=[]) (Z:=gh .ow p ds qs xss) (n:=qs.length + 1) (Fz hl);simp only[List.nil_append,List.length_nil] at e2;rw[e2,E7,List.set_append_left _ _ (by rw[h];exact hi)]
theorem u5.of {i:Nat} (h:pre.length=L) (hi:i < L) (hn:pre[i]?=some (some (Sl.fz (.adr p)))) (hl:qs.length=xss.length):u5 (pre++tlG (gh .ow p (qs.map .adr) qs xss++T)) i L p qs xss where
 nm:=by rw[List.getElem?_append_left (by rw[h];exact hi)];exact hn
 lt:=hi
 at0:=by
  have:=yH (pre:=pre) (T:=tlG (gh .ow p (qs.map .adr) qs xss++T)) (j:=0) h;rw[Nat.add_zero] at this;rw[this];rfl
 len:=hl.symm
 ats:=fun k q xs hq hx=>by
  rw[Nat.add_assoc,yH h];exact MV hq hx
theorem xb {R:LL0}:List.map D.lst (List.map (fun r=>List.map D.int r) R)=List.map (fun ns=>D.lst (ns.map D.int)) R:=by rw[List.map_map];rfl
theorem wN:(tlG (gh c p ds qs xss++T))[0]?=some (some (c (.cel p ds))):=rfl
section
variable {Γ:G} {QB:Bo->G->Prop} {t:Tag QB}
end
theorem Hg {Γ1:G} {u3:TS3} {E1:E3} {t:Tag (u3,E1)} {i:Nat} (h:Γ1=pre++tlG (nn m++T)) (hp:pre.length=L) (hi:i < L) (hf:bI pre i) (hm:xss.length + 1<=m) (hq:∀ p qs,qs.length=xss.length->u3 E1 (pre.set i (some (.fz (.adr p)))++tlG (gh .ow p (qs.map .adr) qs xss++(nn (m - (qs.length + 1))++T)))):L5 L i xss Γ1 u3 E1 t:=by
 subst h;refine⟨?_,HI hp hm,fun p qs hl=>?_⟩
 ·unfold bI at hf ⊢;rw[List.getElem?_append_left (by rw[hp];exact hi)];exact hf
 ·rw[List.set_append_left _ _ (by rw[hp];exact hi),yR (by rw[List.length_set];exact hp) hl (by rw[hl];exact hm)];exact hq p qs hl
theorem wkR {i:Nat} (hp:pre.length=L) (hi:i < L) (hn:pre[i]?=some (some (Sl.fz (.adr p)))) (hl:qs.length=xss.length):Wk K (pre++tlG (gh .ow p (qs.map .adr) qs xss++(nn m++T))) (pre.set i (some (.fz (.lst (xss.map .lst))))++tlG (nn (qs.length + 1 + m)++T)):=by
 rw[<- Ig (p:=p) (ds:=qs.map .adr) hp hi hl];exact JT (u5.of hp hi hn hl)
end
section
variable {c:D->Sl} {p q:Addr} {ds:List D} {qs:La0} {xs ys:List D} {xss:List (List D)} {T T' T0 A Z pre Γ:G} {L g n m y:Nat} {K:Fg0}
section
variable {QB:Bo->G->Prop} {t:Tag QB}
end
end
section
variable {c:D->Sl} {p q:Addr} {ds:List D} {qs:La0} {xs ys:List D} {xss:List (List D)} {T T' T0 A Z pre Γ:G} {L L0 g n m y:Nat} {K:Fg0}
end
end L3
namespace L2
open PySem PySem.Spec PyProof.Rows
theorem Bu {pos:Pos} {a b:Int} {x y:Tok} {c v:Value} (l:Lv0) (h:TriplesOk l) (e:codeAmong pos (l++[.int a x,.int b y,c])=some v):codeAmong pos l=some v\/v=c:=by
 fun_induction TriplesOk l with
 | case1=>
  right
  simp only[List.nil_append,codeAmong] at e;split at e
  ·exact(Option.some.inj e).symm
  ·cases e
 | case2 i _ j _ d rest ih=>
  simp only[List.cons_append,codeAmong] at e ⊢;split
  ·rename_i q;rw[if_pos q] at e;exact .inl e
  ·rename_i q;rw[if_neg q] at e;exact ih h e
 | case3=>exact h.elim
noncomputable abbrev mF (q:Str) (params:Arguments) (body:Expr) (scope:Scope) (clos:List (Str×Addr)) (pm:Value) (c:Addr) (ct:Value):Obj:=PySem.W.kla_obj "<lambda>" q params body scope clos pm c ct
def J1 (q:Str) (params:Arguments) (body:Expr) (scope:Scope) (clos:List (Str×Addr)) (pm:Value):TE:=fun _ H Q=>
 ∀ f c oc ct H1,(H1=H\/(H c=none/\H1=upd H c (.frz oc (.ext fun _=>True))))->H1 f=none->rn H1 (.ref c) q->Q (.ref f) (upd H1 f (.frz (mF q params body scope clos pm c ct) (.cod c q)))
section
variable {X:Cx}
theorem Ky {c P:Addr} {params:Arguments} {body:Expr} {scope:Scope} {clos:List (Str×Addr)} {pos:Pos} (hcode:X.env.code=.ref c) (hC:∀ h:Heap,X.K.In h->PySem.W.CodeHd h c P) (hT:nU X.base P (X.env.qual++"<lambda>"))
  (hcl:closureFor scope X.env=pure clos) (hdef:autoParam (defaultsOf params X.env=([],[])) r0) :
  PE X (.Lambda params body scope pos) (J1 (X.env.qual++"<lambda>") params body scope clos ((X.mg "__name__").getD .none)):=by
 intro pins s σ H Q I h;refine PySem.W.kla_eval hdef ?_;obtain⟨ps,t,hP,tag⟩:=I.tb P _ hT;obtain⟨q',t',qs,tag',hPo,htr,hcods⟩:=I.hok P _ hP;obtain⟨rfl,rfl⟩:X.env.qual++"<lambda>"=q'/\t=t':=by
  rw[tag] at tag';simpa using tag'
 have hns:s.heap.Ns mainGlobals X.mg:=I.mod.glob.keeps I.bk;obtain⟨bm,ob,b1,b2,b3,b4,b5,b6⟩:=I.mod.bm;have hgP:mainGlobals≠P:=fun z=>by
  obtain⟨o,es,ep,e,hd,_⟩:=hns;rw[z,hPo] at e;cases e;cases hd
 have hbP:bm≠P:=fun z=>by
  have e:=I.bk _ _ b3;rw[z,hPo] at e;cases e;cases b4
 have hbG:bm≠mainGlobals:=fun z=>by
  obtain⟨o,es,ep,e,hd,_⟩:=hns;have e':=I.bk _ _ b3;rw[z,e] at e';cases e';rw[hd] at b6;cases b6
 have hB:s.heap.BuiltinsAt X.mg P:=⟨bm,ob,b1,b2,hbG,hbP,I.bk _ _ b3,b4,b5,b6⟩;cases hcd:codeAmong pos qs.toList with
 | none=>
  refine PySem.W.kla_makeFunction hcl I.ok.glob hns hcode (hC _ I.kIn) hPo htr hcd hgP hB fun c' ct h' tk hx hge hlt hrec htb=>?_;obtain⟨c₂,oc,vs,t2,e2,hoc,hd,hv⟩:=hrec;cases e2;have hc0:H c'=none:=I.hok.fresh hge;have hcs:s.heap.objs.size<=h'.objs.size:=Nat.le_of_lt (Nat.lt_of_le_of_lt hge hlt);have hf0:H h'.objs.size=none:=I.hok.fresh hcs;have hfc:h'.objs.size≠c':=Nat.ne_of_gt hlt
  let H1:=upd H c' (.frz oc (.ext fun _=>True))
  have hf1:H1 h'.objs.size=none:=by show upd H c' _ _=none;rw[ah hfc];exact hf0
  have hPc:P≠c':=aF hP hc0;have hPf:P≠h'.objs.size:=aF hP hf0;have cod:∀ H':Hp,H' c'=some (.frz oc (.ext fun _=>True))->rn H' (.ref c') (X.env.qual++"<lambda>"):=fun H' z=>⟨c',oc,vs,t2,_,rfl,z,hd,hv⟩;have q:=h h'.objs.size c' oc ct H1 (.inr ⟨hc0,rfl⟩) hf1 (cod H1 ar);have keepN:∀ b o,b≠P->s.heap.get? b=some o->(h'.push (mF (X.env.qual++"<lambda>") params body scope clos ((X.mg "__name__").getD .none) c' ct)).get? b=some o:=fun b o nb e=>Heap.get?_push_of_some _ (hx b o nb e);have nP:∀ b,H b=none->b≠P:=fun b n z=>by rw[z,hP] at n;cases n
  have old:∀ {b:Addr} {u:HO},H b=some u->upd H1 h'.objs.size (.frz (mF (X.env.qual++"<lambda>") params body scope clos ((X.mg "__name__").getD .none) c' ct) (.cod c' (X.env.qual++"<lambda>"))) b=some u:=fun {b u} e=>by
   rw[ah (aF e hf0)];show upd H c' _ b=_;rw[ah (aF e hc0)];exact e
  have cN:upd H1 h'.objs.size (.frz (mF (X.env.qual++"<lambda>") params body scope clos ((X.mg "__name__").getD .none) c' ct) (.cod c' (X.env.qual++"<lambda>"))) c'=some (.frz oc (.ext fun _=>True)):=by
   rw[ah (Ne.symm hfc)];exact ar
  refine⟨.ref h'.objs.size,_,I.un ⟨fun b o e n _ _=>keepN b o (nP b n) e,fun b o e n _ _=>⟨o.slots,keepN b o (nP b n) e⟩,fun b o e n _=>?_,fun b o e _=>?_,fun b xs e=>old e,fun b o u e=>old e,fun b ps e=>⟨#[],by rw[Array.append_empty];exact old e⟩⟩ (fun b u e=>?_),rfl,q⟩
  ·have lt:=Heap.lt_size e;rw[ah (Nat.ne_of_lt (Nat.lt_of_lt_of_le lt hcs))];show upd H c' _ b=_;rw[ah (Nat.ne_of_lt (Nat.lt_of_lt_of_le lt hge))];exact n
  ·by_cases z:b=P
   ·subst z;exact⟨_,Heap.get?_push_of_some _ htb⟩
   ·exact⟨o,keepN b o z e⟩
  ·by_cases zf:b=h'.objs.size
   ·subst zf;rw[ar] at e;cases e;exact⟨Heap.get?_push_size _ rfl,⟨_,Heap.get?_push_size _ rfl⟩,cod _ cN⟩
   ·rw[ah zf] at e;by_cases zc:b=c'
    ·subst zc;have e':upd H b (.frz oc (.ext fun _=>True)) b=some u:=e;rw[ar] at e';cases e';exact⟨Heap.get?_push_of_some _ hoc,trivial,⟨_,Heap.get?_push_of_some _ hoc⟩,fun _ _ _ _=>trivial⟩
    ·have e':upd H c' (.frz oc (.ext fun _=>True)) b=some u:=e;rw[ah zc] at e';by_cases zP:b=P
     ·subst zP;rw[hP] at e';cases e';refine⟨_,t,_,tag,Heap.get?_push_of_some _ htb,?_,fun pos' v r=>?_⟩
      ·rw[Array.toList_append];exact TriplesOk_snoc _ _ _ _ htr
      ·rw[Array.toList_append] at r;rcases Bu _ htr r with r | rfl
       ·exact(hcods pos' v r).mono fun _ _ _ z=>old z
       ·exact cod _ cN
     ·refine(I.hok b u e').tu (fun d o hd g=>keepN d o (fun z=>?_) g) (fun _ z=>old z) (fun _ _ z=>old z) fun _ _ _ z=>old z;rcases hd with y | y
      ·exact zP (y.symm.trans z)
      ·rw[z,hP] at y;cases y
 | some v=>
  obtain⟨c',oc,vs,t2,φ,rfl,e1,e2,e3⟩:=hcods pos v hcd;refine PySem.W.kla_makeFunctionHit hcl I.ok.glob hns hcode (hC _ I.kIn) hPo htr hcd hB fun ct h' tk hk hsz=>?_;have hf0:H h'.objs.size=none:=I.hok.fresh hsz;have cod:rn H (.ref c') (X.env.qual++"<lambda>"):=⟨c',oc,vs,t2,φ,rfl,e1,e2,e3⟩;refine⟨.ref h'.objs.size,_,I.laid (a:=h'.objs.size) (o:=.frz (mF (X.env.qual++"<lambda>") params body scope clos ((X.mg "__name__").getD .none) c' ct) (.cod c' (X.env.qual++"<lambda>"))) (t':=tk) (fun b u e=>Heap.get?_push_of_some _ (hk b u e)) hsz
   ⟨Heap.get?_push_size _ rfl,⟨_,Heap.get?_push_size _ rfl⟩,cod.mono fun b o φ z=>by rw[ah (aF z hf0)];exact z⟩,rfl,h h'.objs.size c' oc ct H (.inl rfl) hf0 cod⟩
end
noncomputable def el (n:Nat) (g:Addr->Option Obj) (m:Addr->Option Str):Heap:={ objs:=Array.ofFn (n:=n) fun i=>(g i.1).getD { cls:=(m i.1).elim .none fun q=>.str q 0,data:=.freed } }
section
variable {n:Nat} {g:Addr->Option Obj} {m:Addr->Option Str} {b:Addr} {o:Obj} {h:Heap}
theorem uv (e:h.get? b=some o):o.data≠.freed:=by
 unfold Heap.get? at e;cases q:h.objs[b]? with
 | none=>rw[q] at e;cases e
 | some x=>
  rw[q] at e;obtain⟨c,d,dt,sl⟩:=x;cases dt with
  | freed=>cases e
  | _=>cases e;intro y;cases y
theorem iw:(el n g m).objs.size=n:=by unfold el;exact Array.size_ofFn
theorem l8 (hb:b < n):(el n g m).objs[b]?=some ((g b).getD { cls:=(m b).elim .none fun q=>.str q 0,data:=.freed }):=by
 unfold el;rw[Array.getElem?_eq_getElem (by rw[Array.size_ofFn];exact hb),Array.getElem_ofFn]
theorem ud (hb:b < n) (hg:g b=some o) (nf:o.data≠.freed):(el n g m).get? b=some o:=by
 unfold Heap.get?;rw[l8 hb,hg];obtain⟨c,d,dt,sl⟩:=o;show (match some (Obj.mk c d dt sl) with | some ⟨_,_,.freed,_⟩=>none | o=>o)=_;split
 ·rename_i z;cases z;exact absurd rfl nf
 ·rfl
theorem qg (e:(el n g m).get? b=some o):b < n/\g b=some o:=by
 have hb:b < n:=by have:=Heap.lt_size e;rw[iw] at this;exact this
 refine⟨hb,?_⟩;have nf:=uv e;unfold Heap.get? at e;rw[l8 hb] at e;cases q:g b with
 | none=>rw[q] at e;cases e
 | some o'=>
  rw[q] at e;split at e
  ·cases e
  ·cases e;rfl
theorem AQ {q:Str} (hb:b < n) (hg:g b=none) (hm:m b=some q):nU (el n g m) b q:=by
 unfold nU;rw[l8 hb,hg,hm]
 rfl
theorem ze {q:Str} (nf:∀ o,g b=some o->o.data≠.freed) (e:nU (el n g m) b q):g b=none/\m b=some q:=by
 unfold nU at e;have hb:b < n:=by
  obtain⟨z,_⟩:=Array.getElem?_eq_some_iff.mp e;rw[iw] at z;exact z
 rw[l8 hb] at e;cases hg:g b with
 | some o=>
  rw[hg] at e;have e':o={ cls:=.str q 0,data:=.freed }:=Option.some.inj e;exact absurd (by rw[e']) (nf o hg)
 | none=>
  refine⟨rfl,?_⟩;rw[hg] at e;have e':=Option.some.inj e;cases hm:m b with
  | none=>rw[hm] at e';have:=congrArg Obj.cls e';cases this
  | some q'=>
   rw[hm] at e';have:=congrArg Obj.cls e';have y:Value.str q' 0=Value.str q 0:=this;cases y
   rfl
end
noncomputable def pick (h:Heap) (p:Addr->Bool):Heap:=el h.objs.size (fun b=>if p b=true then h.get? b else none) fun _=>none
section
variable {h:Heap} {p:Addr->Bool} {b:Addr} {o:Obj}
theorem C2:(pick h p).objs.size=h.objs.size:=iw
theorem oo (e:h.get? b=some o) (hp:p b=true):(pick h p).get? b=some o:=ud (Heap.lt_size e) (by rw[if_pos hp];exact e) (uv e)
theorem su (e:(pick h p).get? b=some o):h.get? b=some o/\p b=true:=by
 have z:=(qg e).2;split at z
 ·rename_i y;exact⟨z,y⟩
 ·cases z
theorem Ez {q:Str} (e:nU (pick h p) b q):False:=by
 have z:=(ze (fun o e=>by
  split at e
  ·exact uv e
  ·cases e) e).2
 cases z
end
theorem qJ {h base:Heap} {p:Addr->Bool}:∀ {l:List Env},h.FunFrames base l->(∀ b∈frs l,p b=false)->h.FunFrames (pick h p) l
 | [],_,_=>trivial
 | env::r,⟨k,⟨L,o,hf,hn,ho,hd⟩,hr⟩,q=>by
  have m:L∈frs (env::r):=by unfold frs;rw[List.filterMap_cons,hf];exact List.mem_cons_self
  refine⟨k,⟨L,o,hf,?_,ho,hd⟩,qJ hr fun b hb=>q b ?_⟩
  ·cases z:(pick h p).get? L with
   | none=>rfl
   | some u=>
    have y:=q L m;rw[(su z).2] at y;cases y
  ·unfold frs at hb ⊢;rw[List.filterMap_cons,hf];exact List.mem_cons_of_mem _ hb
section
variable {X:Cx} {pins:Pn} {σ:St} {H:Hp} {s:Shared}
theorem Inv.M3 {p:Addr->Bool} (I:Inv X pins σ H s) (hb:∀ b o,X.base.get? b=some o->p b=true) (hp:∀ b o,s.heap.get? b=some o->p b=true->Kpt H b o) (hf:∀ b∈frs X.stack,p b=false) :
  Ac X.prog X.w X.K X.mg (pick s.heap p) X.A X.stack s H:=by
 have k:∀ b o,X.base.get? b=some o->(pick s.heap p).get? b=some o:=fun b o e=>oo (I.bk b o e) (hb b o e);refine⟨I.ok.frames,⟨I.mod.kin.keeps k,I.mod.glob.keeps k,let ⟨mb,h1,h2⟩:=I.mod.blt;⟨mb,h1.keeps k,h2⟩,I.mod.nolimit.keeps k,let ⟨bm,ob,h1,h2,h3,h4⟩:=I.mod.bm;⟨bm,ob,h1,h2,k _ _ h3,h4⟩⟩,fun b o e=>⟨(su e).1,hp b o (su e).1 (su e).2⟩,Nat.le_of_eq C2,qJ I.stack hf,I.r9,I.hok,I.bare,fun P q z=>(Ez z).elim⟩
end
def wK (base:Heap) (q:Str) (params:Arguments) (body:Expr) (scope:Scope) (nm:Str) (o:Obj) (f:Addr) (v:V):Prop:=
 ∃ c d pm ct u oc vs t,o=mF q params body scope [(nm,c)] pm d ct/\base.get? f=some o/\base.IsCell c (some u)/\RelV v u/\base.get? d=some oc/\oc.data=.fields vs/\vs[1]?=some (.str q t)
section
variable {X:Cx} {k:Nat} {g:Addr} {fd:FuncData} {ps:Ls0} {x nm:Str} {p pos:Pos} {e:Expr} {es:List Expr} {t:TA} {q:Str} {params:Arguments} {body:Expr} {scope:Scope} {i j:Nat}
def Al (X:Cx) (q:Str) (params:Arguments) (body:Expr) (scope:Scope) (nm:Str) (i j:Nat) (sp:Obj->Addr->V->Sp) (t:TA):TE:=fun σ H Q=>t σ H fun vs H1=>
 ∃ f c d pm ct v,vs[j]?=some (.ref f)/\H1 f=some (.frz (mF q params body scope [(nm,c)] pm d ct) (.cod d q))/\X.env.cells.lookup nm=some c/\σ[i]?=some (some v)/\sp (mF q params body scope [(nm,c)] pm d ct) f v vs H1 Q E0
theorem EK {sp:Obj->Addr->V->Sp} (F:∀ (base:Heap) (o:Obj) (f:Addr) (v:V),wK base q params body scope nm o f v->aG X.prog X.w X.K X.mg base CX0 k g fd ps (sp o f v)) (hr:bN k X.A) (hg:Gl X x) (hm:X.mg x=some (.ref g)) (hk:PySem.W.keepIn X.K (.ref g)=true)
  (hb:Binds X.K fd ps []) (hN:X.N[i]?=some nm) (hv:X.env.scope.names.lookup nm=some .cell) (hfn:X.fn nm=true) (ha:PA X (e::es) t) (hdb:autoParam ((x == ("__debug__":Str))=false) d0)
  (he:autoParam (starEach (e::es) X.env=(false,eval e X.env)::starEach es X.env) r0) (hpl:autoParam ((backTo pos (starEach es X.env)).any (·.1)=false) r0) :
  PE X (.Call (.Name x p) (e::es) [] pos) (Al X q params body scope nm i j sp t):=by
 intro pins s σ H Q I h;refine wpAny_Call_Name_kw (l_ I hg hm ?_ hdb);refine PySem.W.callWith_K (h₀:=X.base) I.ok.mod.kin hk (thn (ha pos pins s σ H _ I h) fun us s1 ⟨vs,H1,I1,r,z⟩=>⟨I1.kIn,?_⟩) he hpl;obtain⟨f,c,d,pm,ct,v,_,hf,hc,hσ,hsp⟩:=z;obtain⟨m,hn,hl⟩:=I1.loc;obtain⟨u,rv,lk⟩:=hl i nm v hN hσ (.inr (.inl hv));have hcell:s1.heap.IsCell c (some u):=by
  rcases lk with ⟨k1,_⟩ | ⟨_,c2,e2,z⟩
  ·have k2:X.env.scope.names.lookup nm=some .local:=k1;rw[hv] at k2;cases k2
  ·rw[hc] at e2;cases e2;exact z
 obtain⟨of,_,y⟩:=I1.hok f _ hf;obtain⟨d',oc,ws,t2,φ,e1,hd,e3,e4⟩:=y;cases e1;obtain⟨od,_⟩:=I1.hok d _ hd
 let P:Addr->Bool:=fun b=>(X.base.get? b).isSome || (decide (b=f) || (decide (b=c) || decide (b=d)))
 have pf:P f=true:=by simp [P]
 have pc:P c=true:=by simp [P]
 have pd:P d=true:=by simp [P]
 have cab:=I1.ok.cab nm c hfn hc;have L:wK (pick s1.heap P) q params body scope nm (mF q params body scope [(nm,c)] pm d ct) f v:=by
  obtain⟨ocl,hcl,hcd⟩:=hcell;exact⟨c,d,pm,ct,u,oc,ws,t2,rfl,oo of pf,⟨ocl,oo hcl pc,hcd⟩,rv,oo od pd,e3,e4⟩
 have e0:=I1.M3 (p:=P) (fun b o eb=>by simp [P,eb]) (fun b o eb hp=>?_) fun b hbm=>?_
 ·have Fn:=F _ _ _ _ L;have r2:Vals (vs++[]) (us++[]):=r.append .nil;rw[List.append_nil,List.append_nil] at r2;have hl2:(us++[]).length=ps.length:=by rw[List.append_nil,<- r2.length];exact Fn.len _ _ _ _ hsp
  have bt:=hb s1 us I1.kIn hl2;rw[List.append_nil] at bt;refine wpAny_call (codeAny_mono (Fn.run X.A X.stack s1 H1 ⟨us,[]⟩ us vs Q E0 hr e0 bt r2 hsp) fun r s' hq=>?_);cases r with
  | error e=>exact False.elim hq
  | ok fl=>
   cases fl with
   | ret u=>exact I1.after hq
   | next=>exact False.elim hq
   | brk=>exact False.elim hq
   | cont=>exact False.elim hq
 ·have hp':(X.base.get? b).isSome=true\/b=f\/b=c\/b=d:=by simpa [P] using hp
  rcases hp' with hp | rfl | rfl | rfl
  ·obtain⟨o',e'⟩:=Option.isSome_iff_exists.mp hp;obtain⟨a1,a2⟩:=I1.bs b o' e';rw[eb] at a1;cases a1;exact a2
  ·rw[of] at eb;cases eb;exact .inr ⟨⟨_,hf⟩,fun v z=>by cases z⟩
  ·exact .inl (I1.freeC nm b hc)
  ·rw[od] at eb;cases eb;exact .inr ⟨⟨_,hd⟩,fun v z=>by rw[e3] at z;cases z⟩
 ·have hnone:=I1.r9 b hbm;have nb:X.base.get? b=none:=(I1.stack.mem hbm).1;have n1:b≠f:=fun z=>by rw[z,hf] at hnone;cases hnone
  have n2:b≠d:=fun z=>by rw[z,hd] at hnone;cases hnone
  have n3:b≠c:=fun z=>by
   rcases List.mem_cons.mp (I1.tj b hbm) with y | y
   ·exact I1.cne nm c hc (z.symm.trans y)
   ·obtain⟨_,o,ho,_⟩:=I1.ok.nI.mem y;have:=Heap.lt_size ho;rw[z] at this;exact absurd (Nat.lt_of_lt_of_le this cab) (Nat.lt_irrefl _)
  simp [P,nb,n1,n2,n3]
def Ak (i:Nat) (f:Addr) (sp:Sp) (t:TA):TE:=fun σ H Q=>σ[i]?=some (some (.ref f))/\t σ H fun vs H1=>sp vs H1 Q E0
theorem EJ {f:Addr} {o:Obj} {sp:Sp} (hf:X.base.get? f=some o) (ho:o.data=.func fd) (F:aG X.prog X.w X.K X.mg X.base CX0 k f fd ps sp) (hr:bN k X.A) (hb:Binds X.K fd ps []) (hN:X.N[i]?=some x) (hv:Vis X.env.scope x) (ha:PA X (e::es) t)
  (hdb:autoParam ((x == ("__debug__":Str))=false) d0) (hcd:autoParam ((x == ("__classdict__":Str))=false) d0) (he:autoParam (starEach (e::es) X.env=(false,eval e X.env)::starEach es X.env) r0) (hpl:autoParam ((backTo pos (starEach es X.env)).any (·.1)=false) r0) :
  PE X (.Call (.Name x p) (e::es) [] pos) (Ak i f sp t):=by
 intro pins s σ H Q I ⟨h1,h2⟩;have at':∀ {h:Heap},(∀ b o,X.base.get? b=some o->h.get? b=some o)->PySem.W.FnAt f h:=fun {h} k=>by
  have e:=k _ _ hf;obtain⟨oc,od,dt,sl⟩:=o;have ho':dt=.func fd:=ho;subst ho';exact⟨oc,od,fd,sl,e⟩
 refine wpAny_Call_Name_kw (thn (xi (i:=i) hN hv hdb hcd pins s σ H (fun v H'=>v=.ref f/\H'=H) I ⟨_,h1,rfl,rfl⟩) fun u s1 Z=>?_);obtain⟨v,H',I1,rv,e1,e2⟩:=Z;subst e1;subst e2;obtain rfl:u=.ref f:=rv;refine PySem.W.callWith_F (at' I1.bk) (thn (ha pos pins s1 σ _ _ I1 h2) fun us s2 ⟨vs,H2,I2,r,z⟩=>⟨at' I2.bk,?_⟩) he hpl;exact tU (dvs:=[]) (ds:=[]) F hr hb .nil qE I2 r (by rw[List.append_nil];exact z)
end
structure u4 (ps:Ls0) (nm:Str) (sc:Scope):Prop where
 kind:sc.kind=.function
 co:sc.isCoroutine=false
 gen:sc.isGenerator=false
 nd:(ps++[nm]).Nodup
 par:∀ x∈ps,sc.names.lookup x=some .local
 fre:sc.names.lookup nm=some .free
 only:∀ y∈sc.names,y.2=.free->y.1=nm
 nocell:∀ y∈sc.names,y.2≠.cell
noncomputable def FO (P:Program) (w:World) (K:Fg0) (mg:SV) (base:Heap) (ps:Ls0) (q:Str) (scope:Scope) (nm:Str) (f c d:Addr) (A:Around) (outer:List Env) (s:Shared) (H:Hp):Cx where
 prog:=P
 w:=w
 K:=K
 mg:=mg
 base:=base
 A:=A.deeper (PySem.W.envX q scope s.heap.objs.size f (.ref d) [(nm,c)])
 N:=ps++[nm]
 s₀:=s
 H₀:=H
 env:=PySem.W.envX q scope s.heap.objs.size f (.ref d) [(nm,c)]
 outer:=outer
 stack:=PySem.W.envX q scope s.heap.objs.size f (.ref d) [(nm,c)]::outer
 ex:=[]
 calm:=true
 fn:=fun _=>false
 pn:=[]
 xe:=fun _ _=>False
theorem B0 {β:Type} {x:Str} {v:β}:∀ {l:List (Str×β)},(l.map (·.1)).Nodup->(x,v)∈l->l.lookup x=some v
 | [],_,h=>by cases h
 | (y,u)::l,nd,h=>by
  rw[List.map_cons,List.nodup_cons] at nd;rw[List.lookup_cons];rcases List.mem_cons.mp h with e | h2
  ·cases e;rw[beq_self_eq_true]
  ·have ne:(x == y)=false:=by
    rw[beq_eq_false_iff_ne];rintro rfl;exact nd.1 (List.mem_map.mpr ⟨_,h2,rfl⟩)
   rw[ne];exact B0 nd.2 h2
theorem Bw {β:Type}:∀ (P:Ls0) (us:List β),((P.zip us).map (·.1)).Sublist P
 | [],_=>by simp
 | _::_,[]=>by simp
 | p::P,u::us=>by
  rw[List.zip_cons_cons,List.map_cons];exact(Bw P us).cons₂ p
theorem Dm {v:Value} {x:Str}:∀ {P:Ls0} {us:Lv0} {i:Nat},P.Nodup->P[i]?=some x->us[i]?=some v->(P.zip us).reverse.lookup x=some v:=by
 intro P us i nd h1 h2;have hm:(x,v)∈P.zip us:=List.mem_of_getElem? (i:=i) (by rw[List.getElem?_zip_eq_some];exact⟨h1,h2⟩);refine B0 ?_ (List.mem_reverse.mpr hm);rw[List.map_reverse];refine List.pairwise_reverse.mpr (List.Pairwise.imp (fun z=>Ne.symm z) ?_);exact List.Nodup.sublist (Bw _ _) nd
section
variable {P:Program} {w:World} {K:Fg0} {mg:SV} {base:Heap} {ps:Ls0} {q:Str} {params:Arguments} {body:Expr} {scope:Scope} {nm:Str} {o:Obj} {f:Addr} {v:V} {k:Nat} {sp:Sp}
theorem K2 (L:wK base q params body scope nm o f v) (S:u4 ps nm scope) (len:∀ vs H Q E,sp vs H Q E->vs.length=ps.length + 1)
  (hbody:∀ (c d:Addr) (A:Around) (outer:List Env) (s:Shared) (H:Hp) (vs:List V) (Q:VK),bN k (A.deeper (PySem.W.envX q scope s.heap.objs.size f (.ref d) [(nm,c)]))->sp vs H Q E0->
   ∃ t,PE (FO P w K mg base ps q scope nm f c d A outer s H) body t/\t (vs.map some) H Q)
  (hbd:∀ (clos:List (Str×Addr)) (pm:Value) (d:Addr) (ct:Value) (us:Lv0),us.length=ps.length->bindArgs (PySem.W.kla_fn "<lambda>" q params body scope clos pm (.ref d) ct) ⟨us,[]⟩=pure (ps.zip us)) :
  ∃ fd,base.get? f=some o/\o.data=.func fd/\Binds K fd ps []/\aG P w K mg base CX0 (k + 1) f fd ps (fun vs H Q _=>sp (vs++[v]) H Q E0):=by
 obtain⟨c,d,pm,ct,u,oc,ws,t,rfl,hf,⟨ocl,hcl,hcd⟩,rv,hd,hdd,hv⟩:=L;refine⟨_,hf,rfl,.all (hbd _ _ _ _),fun vs H Q E h=>?_,fun A outer s H args us vs Q E hr e0 hb r hsp=>?_⟩
 ·have:=len _ _ _ _ h;rw[List.length_append] at this;simpa using this
 have hl:vs.length=ps.length:=by
  have:=len _ _ _ _ hsp;rw[List.length_append] at this;simpa using this
 have lim:s.heap.NoLimit:=e0.mod.nolimit.keeps fun b o e=>(e0.bs b o e).1;refine PySem.W.kla_callFunE hr.depth (e0.bs _ _ hf).1 rfl S.co S.gen rfl ⟨d,oc,ws,t,rfl,(e0.bs _ _ hd).1,hdd,hv⟩ (hb _ _ _ _ ?_);refine wpAny_newFunctionEnv S.nocell (fun y hy=>S.par y.1 (List.of_mem_zip (a:=y.1) (b:=y.2) hy).1) (fun h₁ hns hsb=>⟨lim.fresh _ hsb,?_⟩) S.kind;show codeAny _ _ (.expr body (PySem.W.envX q scope s.heap.objs.size f (.ref d) [(nm,c)])) _ _;have hk:∀ b o,s.heap.get? b=some o->h₁.get? b=some o:=fun b o e=>hsb.extBut b o (Nat.ne_of_lt (Heap.lt_size e)) (Heap.get?_push_of_some _ e);refine PySem.W.kla_codeExpr ?_;obtain⟨tt,ht,hq⟩:=hbody c d A outer s H (vs++[v]) Q (hr.deeper _) hsp;have hnm:∀ x c',[(nm,c)].lookup x=some c'->x=nm/\c'=c:=fun x c' e=>by
  rw[List.lookup_cons] at e;split at e
  ·rename_i z;cases e;exact⟨by simpa using z,rfl⟩
  ·cases e
 have hc0:H c=none:=by
  rcases(e0.bs _ _ hcl).2 with z | ⟨_,z⟩
  ·exact z
  ·exact absurd hcd (z _)
 have noA:∀ b:Addr,b∉([]:La0):=fun b z=>absurd z (by simp);have I:Inv (FO P w K mg base ps q scope nm f c d A outer s H) [] ((vs++[v]).map some) H { s with heap:=h₁,toks:=s.toks + (ps.zip us).length }:=by
  refine⟨⟨e0.mod,S.kind,rfl,rfl,Nat.le_refl _,fun y z c' h1 h2=>(hnm y c' h1).1.trans (hnm z c' h2).1.symm,fun y hy=>?_,fun y c' z _=>(by cases z),fun _=>hr.hd,Around.frames_deeper e0.frames,.inr ⟨rfl,rfl⟩,fun b z=>absurd z (noA b),e0.bs,e0.bsz,fun b _ _=>noA b,fun b z=>absurd z (noA b),e0.nI,e0.frf,e0.tb⟩,
   rfl,e0.bare,Un.kept hk,⟨_,hns,fun i y v' h1 h2 h3=>?_⟩,fun y c' h=>?_,e0.hok.fresh (Nat.le_refl _),fun y c' h=>?_,fun p hp=>absurd (show p∈([]:Pn) from hp) (by simp),e0.hok.kept hk,?_⟩
  ·have hy:scope.names.lookup y=some .cell\/scope.names.lookup y=some .free:=hy;rcases hy with hy | hy
   ·exact absurd rfl (S.nocell _ (PySem.mem_of_lookup hy))
   ·have e:=S.only _ (PySem.mem_of_lookup hy) rfl;subst e;exact⟨c,by show [(y,c)].lookup y=some c;rw[List.lookup_cons,beq_self_eq_true]⟩
  ·have h1:(ps++[nm])[i]?=some y:=h1;by_cases hi:i < ps.length
   ·rw[List.getElem?_append_left hi] at h1;rw[List.getElem?_map,List.getElem?_append_left (by rw[hl];exact hi)] at h2;cases hvi:vs[i]? with
    | none=>rw[hvi] at h2;cases h2
    | some a=>
     rw[hvi] at h2;cases h2;obtain⟨u',hu',ru⟩:=r.get hvi;exact⟨u',ru,.inl ⟨S.par y (List.mem_of_getElem? h1),Dm (List.Nodup.sublist (List.sublist_append_left _ _) S.nd) h1 hu'⟩⟩
   ·rw[List.getElem?_append_right (Nat.le_of_not_lt hi)] at h1;rw[List.getElem?_map,List.getElem?_append_right (by rw[hl];exact Nat.le_of_not_lt hi),hl] at h2;have hi0:i - ps.length=0:=by
     cases z:i - ps.length with
     | zero=>rfl
     | succ n=>rw[z] at h1;simp at h1
    rw[hi0] at h1 h2;cases h1;cases h2;exact⟨u,rv,.inr ⟨.inr S.fre,c,by show [(nm,c)].lookup nm=some c;rw[List.lookup_cons,beq_self_eq_true],⟨ocl,hk _ _ (e0.bs _ _ hcl).1,hcd⟩⟩⟩
  ·obtain⟨_,rfl⟩:=hnm y c' h;exact⟨_,ocl,hk _ _ (e0.bs _ _ hcl).1,hcd⟩
  ·obtain⟨_,rfl⟩:=hnm y c' h;exact hc0
  ·show ((vs++[v]).map some).length=(ps++[nm]).length;simp [hl]
 exact wpAny_mono (ht [] _ _ H _ I hq) (fun u' s' ⟨v',H',J,rv',z⟩=>⟨v',H',J.os,J.bare,J.base,J.hok,rv',z⟩) fun e s' hs=>False.elim hs
end
theorem oQ {β:Type} {a:Addr} {v:β}:∀ {l:List (Addr×β)},l.lookup a=some v->(a,v)∈l
 | [],h=>by cases h
 | (b,u)::l,h=>by
  rw[List.lookup_cons] at h;cases q:a == b with
  | true=>
   rw[q] at h;cases h;have e:a=b:=by simpa using q
   rw[e];exact List.mem_cons_self
  | false=>rw[q] at h;exact List.mem_cons_of_mem _ (oQ h)
def Np (K:Fg0) (h:Heap) (P:Addr):Prop:=h.get? P=some { cls:=.none,data:=.fields #[] }/\K.lookup P=none/\∃ c oc vs,h.get? c=some oc/\oc.cls=.type "code"/\oc.data=.fields vs/\vs[11]?=some (.ref P)
theorem Dp {P:Program} {w:World} {K:Fg0} {mg mb:SV} {CX:CXT} {k:Nat} {fa a:Addr} {fd:FuncData} {x:Str} {sp:Sp} {s₁:Shared} {vs:Lv0} {ns:Li0} {tabs:List (Addr×Str)}
  (KX:K.In s₁.heap) (hns:s₁.heap.Ns mainGlobals mg) (hb:s₁.heap.Ns builtinsNs mb) (hbb:∀ x:Str,x≠"__name__"->mb x=bootBuiltins x) (hlim:s₁.heap.NoLimit)
  (hbm:∃ bm ob,mg "__builtins__"=some (.ref bm)/\bm≠builtinsNs/\s₁.heap.get? bm=some ob/\ob.cls=.type "module"/\ob.dict=some builtinsNs/\ob.data=.plain) (hg:s₁.gens=#[])
  (ha:s₁.heap.get? a=some { cls:=.type "list",data:=.seq vs.toArray }) (hi:IntsAre vs ns) (hl:ns.length<=sizeLine) (hr:bN k callerA)
  (hT:∀ p∈tabs,Np K s₁.heap p.1)
  (F:∀ base:Heap,K.In base->base.Ns mainGlobals mg->(∀ P q,tabs.lookup P=some q->nU base P q)->aG P w K mg base CX k fa fd [x] sp) (hbind:∀ (s:Shared) (u:Value),BindsTo s fd ⟨[u],[]⟩ [(x,u)])
  (hsp:∀ H:Hp,Ls H->SqL K H a (ns.map V.int)->sp [.ref a] H (fun v _=>v=.bl true) fun _ _ _=>False)
  (hCX:∀ H e s',CX [] H s₁ (fun _ _ _=>False) e s'->False) :
  codeAny (model P w) callerA (.call (.ref fa) ⟨[.ref a],[]⟩) (fun r s'=>r=.ok (.ret (.bool true))/\OldK s₁.heap s'.heap/\s'.os=s₁.os/\AllBare s'.gens) s₁:=by
 have rv:=vD hi;have lenV:=hi.length;have tabO:∀ {b:Addr} {q:Str},tabs.lookup b=some q->s₁.heap.get? b=some { cls:=.none,data:=.fields #[] }:=fun {b q} e=>(hT _ (oQ e)).1;have tabA:tabs.lookup a=none:=by
  cases q:tabs.lookup a with
  | none=>rfl
  | some y=>have z:=tabO q;rw[ha] at z;cases z
 have core:∀ H:Hp,Ls H->SqL K H a (ns.map V.int)->HOk P w H s₁.heap->(∀ b u,H b=some u->b=a\/∃ q,tabs.lookup b=some q)->(H a≠none->K.lookup a=none)->(∀ b q,tabs.lookup b=some q->H b=some (.tbl #[.str q 0]))->
   codeAny (model P w) callerA (.call (.ref fa) ⟨[.ref a],[]⟩) (fun r s'=>r=.ok (.ret (.bool true))/\OldK s₁.heap s'.heap/\s'.os=s₁.os/\AllBare s'.gens) s₁:=by
  intro H hO hS hok hA hK hTb;have base_of:∀ {b:Addr} {o:Obj},s₁.heap.get? b=some o->H b=none->(el s₁.heap.objs.size (fun b=>if (H b).isNone then s₁.heap.get? b else none) fun b=>tabs.lookup b).get? b=some o:=fun e n=>ud (Heap.lt_size e) (by rw[n];exact e) (uv e);have noT:∀ {b:Addr} {o:Obj},s₁.heap.get? b=some o->o.cls≠.type "list"->o≠{ cls:=.none,data:=.fields #[] }->H b=none:=fun {b o} e d1 d2=>by
   cases q:H b with
   | none=>rfl
   | some u=>
    rcases hA b u q with z | ⟨y,z⟩
    ·subst z;rw[ha] at e;cases e;exact absurd rfl d1
    ·rw[tabO z] at e;cases e;exact absurd rfl d2
  have noA:∀ {b:Addr} {o:Obj} {es:Array DictEntry} {ep:Nat},s₁.heap.get? b=some o->o.data=.dict es ep->H b=none:=fun {b o es ep} e d=>by
   cases q:H b with
   | none=>rfl
   | some u=>
    rcases hA b u q with z | ⟨y,z⟩
    ·subst z;rw[ha] at e;cases e;cases d
    ·rw[tabO z] at e;cases e;cases d
  have nsK:∀ {b:Addr} {m:SV},s₁.heap.Ns b m->(el s₁.heap.objs.size (fun b=>if (H b).isNone then s₁.heap.get? b else none) fun b=>tabs.lookup b).Ns b m:=fun {b m} ⟨o,es,ep,e,d,r⟩=>⟨o,es,ep,base_of e (noA e d),d,r⟩;have hKb:K.In (el s₁.heap.objs.size (fun b=>if (H b).isNone then s₁.heap.get? b else none) fun b=>tabs.lookup b):=fun b o e=>by
   refine base_of (KX b o e) ?_;cases q:H b with
   | none=>rfl
   | some u=>
    rcases hA b u q with z | ⟨y,z⟩
    ·subst z;rw[hK (by rw[q];simp)] at e;cases e
    ·have z2:=(hT _ (oQ z)).2.1;rw[z2] at e;cases e
  have off:∀ {b:Addr} {o:Obj},(if (H b).isNone then s₁.heap.get? b else none)=some o->s₁.heap.get? b=some o/\H b=none:=fun {b o} e=>by
   split at e
   ·rename_i z;exact⟨e,by simpa using z⟩
   ·cases e
  have hM:Mod K mg (el s₁.heap.objs.size (fun b=>if (H b).isNone then s₁.heap.get? b else none) fun b=>tabs.lookup b):=⟨hKb,nsK hns,⟨mb,nsK hb,hbb⟩,let ⟨mc,h1,h2⟩:=hlim;⟨mc,nsK h1,h2⟩,let ⟨bm,ob,h1,h2,h3,h4,h5⟩:=hbm;⟨bm,ob,h1,h2,base_of h3 (noT h3 (by rw[h4];decide) (by intro z;rw[z] at h4;cases h4)),h4,h5⟩⟩;have e0:Ac P w K mg (el s₁.heap.objs.size (fun b=>if (H b).isNone then s₁.heap.get? b else none) fun b=>tabs.lookup b) callerA [] s₁ H:=⟨rfl,hM,fun b o e=>⟨(off (qg e).2).1,.inl (off (qg e).2).2⟩,Nat.le_of_eq iw,trivial,fun b hb=>absurd (show b∈([]:La0) from hb) (by simp),hok,.of_eq hg,
   fun P q z=>⟨_,0,hTb P q (ze (fun o e=>uv (off e).1) z).2,rfl⟩⟩
  refine codeAny_mono ((F _ hKb (nsK hns) fun P q z=>AQ (Heap.lt_size (tabO z)) (by rw[hTb P q z];rfl) z).run callerA [] s₁ H ⟨[.ref a],[]⟩ [.ref a] [.ref a] _ _ hr e0 (hbind s₁ (.ref a)) (.cons rfl .nil) (hsp H hO hS)) fun r s' h=>?_;cases r with
  | error e=>exact(hCX H e s' h).elim
  | ok fl=>
   cases fl with
   | next=>exact False.elim h
   | brk=>exact False.elim h
   | cont=>exact False.elim h
   | ret u=>
    obtain⟨v,H',os,bare,un,hok',r',q⟩:=h;have q':v=.bl true:=q;subst q';obtain rfl:u=Value.bool true:=r';refine⟨rfl,⟨fun b o e=>?_,fun b o e=>un.there b o e (by simp)⟩,os,bare⟩;cases q:H b with
    | none=>exact .inl (un.keep b o e q (by intro z;exact absurd (show b∈([]:La0) from z) (by simp)) (by simp))
    | some u=>
     rcases hO b with z | ⟨ob,xs,z⟩ | ⟨ps,z⟩
     ·rw[q] at z;cases z
     ·have z2:=un.mq b ob _ z;obtain⟨e1,_⟩:=hok b _ z;obtain⟨e2,_⟩:=hok' b _ z2;rw[e] at e1;cases e1;exact .inl e2
     ·rcases hA b u q with y | ⟨y,hy⟩
      ·subst y;obtain⟨_,_,_,_,e1,_⟩:=hok b _ z;rw[ha] at e1;cases e1
      ·obtain⟨m,z2⟩:=un.tbls b ps z;obtain⟨_,_,qs,_,e2,_⟩:=hok' b _ z2;have e1:=tabO hy;rw[e] at e1;cases e1;obtain⟨c,oc,ws,c1,c2,c3,c4⟩:=(hT _ (oQ hy)).2.2;exact .inr (.inl ⟨⟨c,oc,ws,c1,c2,c3,c4⟩,rfl,#[],qs,rfl,by rw[Array.empty_append];exact e2⟩)
 let Ht:Hp:=fun b=>(tabs.lookup b).map fun q=>.tbl #[.str q 0]
 have htOk:∀ {b:Addr} {u:HO} {H:Hp},Ht b=some u->cV P w H s₁.heap b u:=fun {b u H} z=>by
  cases q:tabs.lookup b with
  | none=>have z':(tabs.lookup b).map (fun q=>HO.tbl #[.str q 0])=some u:=z;rw[q] at z';cases z'
  | some y=>
   have z':(tabs.lookup b).map (fun q=>HO.tbl #[.str q 0])=some u:=z;rw[q] at z';cases z';exact⟨y,0,#[],rfl,tabO q,trivial,fun _ _ r=>by simp [codeAmong] at r⟩
 have htSome:∀ {b:Addr} {u:HO},Ht b=some u->∃ q,tabs.lookup b=some q/\u=.tbl #[.str q 0]:=fun {b u} z=>by
  have z':(tabs.lookup b).map (fun q=>HO.tbl #[.str q 0])=some u:=z;cases q:tabs.lookup b with
  | none=>rw[q] at z';cases z'
  | some y=>rw[q] at z';cases z';exact⟨y,rfl,rfl⟩
 have htA:Ht a=none:=by show (tabs.lookup a).map _=none;rw[tabA];rfl
 have htOf:∀ b q,tabs.lookup b=some q->Ht b=some (.tbl #[.str q 0]):=fun b q z=>by show (tabs.lookup b).map _=_;rw[z];rfl
 cases hk:K.lookup a with
 | some o=>
  have e:=KX a o hk;rw[ha] at e;cases e;refine core Ht (fun b=>?_) (.inr ⟨_,vs.toArray,_,hk,rfl,rfl,rfl,by rw[List.size_toArray,lenV];exact hl,by simpa using rv⟩) (fun b u z=>htOk z) (fun b u z=>.inr (let ⟨q,h,_⟩:=htSome z;⟨q,h⟩)) (fun z=>absurd htA z) htOf;cases z:Ht b with
  | none=>exact .inl rfl
  | some u=>obtain⟨q,_,rfl⟩:=htSome z;exact .inr (.inr ⟨_,rfl⟩)
 | none=>
  refine core (upd Ht a (.frz { cls:=.type "list",data:=.seq vs.toArray } (.lst (ns.map V.int)))) (fun b=>?_) (.inl (.inr ⟨{ cls:=.type "list",data:=.seq vs.toArray },ar⟩)) (fun b u z=>?_) (fun b u z=>?_) (fun _=>hk) fun b q z=>?_
  ·by_cases hb:b=a
   ·subst hb;exact .inr (.inl ⟨_,_,ar⟩)
   ·rw[ah hb];cases z:Ht b with
    | none=>exact .inl rfl
    | some u=>obtain⟨q,_,rfl⟩:=htSome z;exact .inr (.inr ⟨_,rfl⟩)
  ·by_cases hb:b=a
   ·subst hb;rw[ar] at z;cases z;exact⟨ha,by rw[lM0];exact hl,vs,_,rv,ha⟩
   ·rw[ah hb] at z;exact htOk z
  ·by_cases hb:b=a
   ·exact .inl hb
   ·rw[ah hb] at z;exact .inr (let ⟨q,h,_⟩:=htSome z;⟨q,h⟩)
  ·rw[ah (fun y=>by rw[y,tabA] at z;cases z)];exact htOf b q z
theorem DQ {l:PySem.W.OpenLaw} {n k:Nat} {q:Program} {loose:Ls0} {XP:(SV)->Heap->Prop} {YP:World->Heap->Prop} {d:DefRec} {K:Params->Fg0} {CX:World->CXT} {sp:Fg0->Sp} {x:Str} {ts:La0}
  (hn:l.most=some n) (hn2:n<=sizeLine) (hdf:d.params.defaults=[]) (hr:bN k callerA)
  (hY:∀ (w:World) (h:Heap),YP w h->(K w.params).In h/\∀ P∈ts,h.get? P=some (PySem.W.tabObj #[]))
  (F:∀ (w:World) (mg:SV) (fa:Addr) (h:Heap),(K w.params).In h->h.Ns mainGlobals mg->mg d.name=some (.ref fa)->
   ∃ (fd:FuncData) (tabs:List (Addr×Str)),(∀ (s:Shared) (u:Value),BindsTo s fd ⟨[u],[]⟩ [(x,u)])/\(∀ p∈tabs,p.1∈ts/\(K w.params).lookup p.1=none/\∃ c,PySem.W.CodeHd h c p.1)/\
    ∀ base:Heap,(K w.params).In base->base.Ns mainGlobals mg->(∀ P q,tabs.lookup P=some q->nU base P q)->aG l.prog w (K w.params) mg base (CX w) k fa fd [x] (sp (K w.params)))
  (hsp:∀ (K:Fg0) (H:Hp) (a:Addr) (ns:Li0),ns.length<=n->Ls H->SqL K H a (ns.map V.int)->sp K [.ref a] H (fun v _=>v=.bl true) fun _ _ _=>False)
  (hCX:∀ (w:World) (H:Hp) (s:Shared) (e:Value) (s':Shared),CX w [] H s (fun _ _ _=>False) e s'->False) :
  PySem.W.WalkO q loose XP YP l.row.toRowW d [] (fun f vs=>PySem.call f vs):=by
 refine Att.z_ hn hdf fun w s₀ s₁ mg mb fa o pm cd doc a vs ns G Y ho hd hcd hmg hobj hints hlen hg=>?_;obtain⟨KX,hts⟩:=hY w _ Y;obtain⟨fd,tabs,hb,hT,hF⟩:=F w mg fa _ KX G.T.g hmg;refine Dp KX G.T.g G.T.b G.T.builtins G.T.nolimit G.T.bmain hg hobj hints (Nat.le_trans hlen hn2) hr (fun p hp=>?_) hF hb (fun H hO hS=>hsp _ H a ns hlen hO hS) fun H e s'=>hCX w H s₁ e s';obtain⟨h1,h2,c,o,vs,_,_,_,_,_,_,_,c1,c2,c3,c4,_⟩:=hT p hp;exact⟨hts _ h1,h2,c,o,vs,c1,c2,c3,c4⟩
end L2
namespace L3
open PySem L2 PySem.Spec PyProof.Rows
section
variable {K:Fg0} {X:Cx} {B:Bs} {F:Hp} {σ:L2.St} {H:Hp} {Γ:G} {pos:Pos} {q:Str} {params:Arguments} {body:Expr} {scope:Scope} {clos:List (Str×Addr)} {pm:Value}
def K3 (O:(Unit->Obj)->Prop) (Γ:G) (Q:RV->G->Prop):Prop:=∀ o f,O o->Q (.fz (.fn o f .non .non)) Γ
def IJ (q:Str) (params:Arguments) (body:Expr) (scope:Scope) (clos:List (Str×Addr)) (o:Unit->Obj):Prop:=∃ pm d ct,o ()=mF q params body scope clos pm d ct
theorem Ha:Ref K (J1 q params body scope clos pm) (K3 (IJ q params body scope clos)):=by
 intro B F σ H Γ Q QQ e h k f c oc ct H1 h1 hf hcod;have e1:En K B F σ H1 Γ:=by
  rcases h1 with rfl | ⟨hc,rfl⟩
  ·exact e
  ·exact e.alloc hc _
 have hF:F f=none:=e1.sub.free hf;have e2:=(e1.alloc hf (.frz (mF q params body scope clos pm c ct) (.cod c q))).freeze (l:=f) hF ar (e1.dom f hf) fun i d hd z=>by
  obtain⟨p,a,_,d'⟩:=e1.hl i d hd;rw[z] at a;cases a;obtain⟨u,hu⟩:=d'.some;rw[hf] at hu;cases hu
 exact k _ _ ⟨_,Γ,.fz (.fn (fun _=>mF q params body scope clos pm c ct) f .non .non),aY hF,e2,⟨rfl,⟨c,q,ar,⟨_,rfl,rfl,rfl⟩⟩,rfl⟩,h (fun _=>mF q params body scope clos pm c ct) f ⟨pm,c,ct,rfl⟩⟩
theorem KC {c P:Addr} (hcode:X.env.code=.ref c) (hC:∀ h:Heap,X.K.In h->PySem.W.CodeHd h c P) (hT:nU X.base P (X.env.qual++"<lambda>")) (hcl:closureFor scope X.env=pure clos) (hdef:autoParam (defaultsOf params X.env=([],[])) r0) :
  P3 K X (.Lambda params body scope pos) (J1 (X.env.qual++"<lambda>") params body scope clos ((X.mg "__name__").getD .none)) (K3 (IJ (X.env.qual++"<lambda>") params body scope clos)):=⟨Ky hcode hC hT hcl hdef,Ha⟩
def Bn (O:(Unit->Obj)->Prop) (i j n:Nat) (S:(Unit->Obj)->Addr->V->S3) (t3:eA) (Γ:G) (Q:RV->G->Prop):Prop:=t3 Γ fun bs Γ1=>bs.length=n/\(bQ bs).Nodup/\∃ o f r,bs[j]?=some (.d (.fn o f .non .non))/\O o/\Γ1[i]?=some (some (.fz r))/\
 ∀ v,S o f v (dG Γ1 ((bs.set j (.d (.fn o f v r))).map some)) fun x Γa=>Q x (bJ (((bs.set j (.d (.fn o f v r))).map some).map bW) Γ1 Γa)
theorem qk:∀ {bs:List Bo} {j:Nat} {x y:D},bs[j]?=some (.d x)->bQ (bs.set j (.d y))=bQ bs
 | [],_,_,_,h=>by simp at h
 | .d _::_,0,_,_,_=>rfl
 | .v _::_,0,_,_,h=>by simp at h
 | .d _::bs,j + 1,x,y,h=>by
  rw[List.set_cons_succ];show bQ (bs.set j _)=bQ bs;exact qk (by simpa using h)
 | .v i::bs,j + 1,x,y,h=>by
  rw[List.set_cons_succ];show i::bQ (bs.set j _)=i::bQ bs;rw[qk (by simpa using h)]
theorem a9.set:∀ {bs:List Bo} {vs:List V} {j:Nat} {x:D} {v:V},a9 K F σ bs vs->vs[j]?=some v->Rep K F x v->a9 K F σ (bs.set j (.d x)) vs
 | [],_,_,_,_,h,e,_=>by cases h;simp at e
 | _::_,_,0,x,v,⟨u,ws,h1,h2,h3⟩,e,r=>by
  subst h1;simp at e;subst e;exact⟨_,ws,rfl,r,h3⟩
 | _::bs,_,j + 1,x,v,⟨u,ws,h1,h2,h3⟩,e,r=>by
  subst h1;rw[List.set_cons_succ];exact⟨u,ws,rfl,h2,a9.set h3 (by simpa using e) r⟩
theorem CZ {nm:Str} {c:Addr} {i j n:Nat} {S:(Unit->Obj)->Addr->V->S3} {t:TA} {t3:eA} (hc:X.env.cells.lookup nm=some c) (h:rm K t t3) :
  Ref K (Al X q params body scope nm i j (fun o f v=>sp3 K n (S (fun _=>o) f v)) t) (Bn (IJ q params body scope [(nm,c)]) i j n S t3):=by
 intro B F σ H Γ Q QQ e qq k;refine h B F σ H Γ _ _ e qq fun vs H1 Z=>?_;obtain⟨F1,Γ1,bs,s1,e1,r1,hn,nd,o,f,r,hj,⟨pm,d,ct,ho⟩,hi,q1⟩:=Z;obtain⟨x,hx,rx⟩:=r1.get hj;obtain⟨rfl,⟨c2,q2,hF,fd,z1,z2,z3⟩,_⟩:=rx;obtain⟨v,hv,rr⟩:=e1.fz i r hi;rw[ho] at z1;cases z1;cases z2;cases z3;have ho':o=fun _=>mF q params body scope [(nm,c)] pm d ct:=funext fun _=>ho;subst ho';have hl:(bs.set j (.d (.fn (fun _=>mF q params body scope [(nm,c)] pm d ct) f v r))).length=n:=by rw[List.length_set];exact hn
 have r2:a9 K F1 σ (bs.set j (.d (.fn (fun _=>mF q params body scope [(nm,c)] pm d ct) f v r))) vs:=r1.set hx ⟨rfl,⟨d,q,hF,⟨_,rfl,rfl,rfl⟩⟩,rr⟩;refine⟨f,c,d,pm,ct,v,hx,e1.sub _ _ hF,hc,hv,?_⟩;refine⟨by rw[r2.length];exact hl,F1,_,_,_,e1.args r2 (by rw[qk hj];exact nd),pW,q1 v,fun r Γa q v H' F' e2 rv=>?_⟩;obtain⟨a,b,c⟩:=e1.called e2 rv;exact k v H' ⟨F',_,r,s1.trans a,b,c,q⟩
theorem EV {nm x:Str} {c g:Addr} {fd:FuncData} {ps:Ls0} {i j n k:Nat} {S:(Unit->Obj)->Addr->V->S3} {t:TA} {t3:eA} {e:Expr} {es:List Expr} {p:Pos}
  (F:∀ (base:Heap) (o:Unit->Obj) (f:Addr) (v:V),wK base q params body scope nm (o ()) f v->aG X.prog X.w X.K X.mg base CX0 k g fd ps (sp3 K n (S o f v))) (hr:bN k X.A) (hg:Gl X x) (hm:X.mg x=some (.ref g)) (hk:PySem.W.keepIn X.K (.ref g)=true)
  (hb:Binds X.K fd ps []) (hN:X.N[i]?=some nm) (hv:X.env.scope.names.lookup nm=some .cell) (hfn:X.fn nm=true) (hc:X.env.cells.lookup nm=some c) (ha:rY K X (e::es) t t3) (hdb:autoParam ((x == ("__debug__":Str))=false) d0)
  (he:autoParam (starEach (e::es) X.env=(false,eval e X.env)::starEach es X.env) r0) (hpl:autoParam ((backTo pos (starEach es X.env)).any (·.1)=false) r0) :
  P3 K X (.Call (.Name x p) (e::es) [] pos) (Al X q params body scope nm i j (fun o f v=>sp3 K n (S (fun _=>o) f v)) t) (Bn (IJ q params body scope [(nm,c)]) i j n S t3):=
 ⟨EK (fun base o f v L=>F base (fun _=>o) f v L) hr hg hm hk hb hN hv hfn ha.pe hdb he hpl,CZ hc ha.rf⟩
def Gf (i n:Nat) (o:Unit->Obj) (f:Addr) (v:V) (S:S3) (t3:eA) (Γ:G) (Q:RV->G->Prop):Prop:=∃ r,Γ[i]?=some (some (.fz (.fn o f v r)))/\t3 Γ fun bs Γ1=>bs.length=n/\(bQ bs).Nodup/\Γ1[i]?=some (some (.fz (.fn o f v r)))/\
 S (dG Γ1 ((bs++[Bo.d r]).map some)) fun x Γa=>Q x (bJ (((bs++[Bo.d r]).map some).map bW) Γ1 Γa)
theorem ql {r:D}:∀ {bs:List Bo},bQ (bs++[Bo.d r])=bQ bs
 | []=>rfl
 | .d _::bs=>by show bQ (bs++_)=_;exact ql
 | .v i::bs=>by show i::bQ (bs++_)=i::bQ bs;rw[ql]
theorem a9.app {r:D} {v:V} (h:Rep K F r v):∀ {bs:List Bo} {vs:List V},a9 K F σ bs vs->a9 K F σ (bs++[Bo.d r]) (vs++[v])
 | [],_,e=>by cases e;exact⟨v,[],rfl,h,rfl⟩
 | _::bs,_,Z=>by obtain⟨u,ws,h1,h2,h3⟩:=Z;subst h1;exact⟨u,ws++[v],rfl,h2,a9.app h h3⟩
theorem CY {i n:Nat} {o:Unit->Obj} {f:Addr} {v:V} {S:S3} {t:TA} {t3:eA} (h:rm K t t3):Ref K (Ak i f (fun vs H Q _=>sp3 K (n + 1) S (vs++[v]) H Q E0) t) (Gf i n o f v S t3):=by
 intro B F σ H Γ Q QQ e ⟨r,hi,qq⟩ k;obtain⟨x,hx,rfl,_,_⟩:=e.fz i _ hi;refine⟨hx,h B F σ H Γ _ _ e qq fun vs H1 Z=>?_⟩;obtain⟨F1,Γ1,bs,s1,e1,r1,hn,nd,hi1,q1⟩:=Z;obtain⟨_,_,_,_,rr⟩:=e1.fz i _ hi1;have r2:=a9.app rr r1;refine⟨by rw[r2.length,List.length_append,hn];rfl,F1,_,_,_,e1.args r2 (by rw[ql];exact nd),pW,q1,fun r Γa q v H' F' e2 rv=>?_⟩;obtain⟨a,b,c⟩:=e1.called e2 rv;exact k v H' ⟨F',_,r,s1.trans a,b,c,q⟩
theorem EU {x:Str} {fd:FuncData} {ps:Ls0} {i n k:Nat} {o:Unit->Obj} {f:Addr} {v:V} {S:S3} {t:TA} {t3:eA} {e:Expr} {es:List Expr} {p:Pos} (hf:X.base.get? f=some (o ())) (ho:(o ()).data=.func fd)
  (F:aG X.prog X.w X.K X.mg X.base CX0 k f fd ps (fun vs H Q _=>sp3 K (n + 1) S (vs++[v]) H Q E0)) (hr:bN k X.A) (hb:Binds X.K fd ps []) (hN:X.N[i]?=some x) (hv:Vis X.env.scope x) (ha:rY K X (e::es) t t3)
  (hdb:autoParam ((x == ("__debug__":Str))=false) d0) (hcd:autoParam ((x == ("__classdict__":Str))=false) d0) (he:autoParam (starEach (e::es) X.env=(false,eval e X.env)::starEach es X.env) r0) (hpl:autoParam ((backTo pos (starEach es X.env)).any (·.1)=false) r0) :
  P3 K X (.Call (.Name x p) (e::es) [] pos) (Ak i f (fun vs H Q _=>sp3 K (n + 1) S (vs++[v]) H Q E0) t) (Gf i n o f v S t3):=⟨EJ hf ho F hr hb hN hv ha.pe hdb hcd he hpl,CY ha.rf⟩
theorem okL {P:Program} {w:World} {mg:SV} {base:Heap} {nm:Str} {o:Unit->Obj} {f:Addr} {v:V} {ps:Ls0} {k:Nat} {S:S3} (L:wK base q params body scope nm (o ()) f v) (Sc:u4 ps nm scope)
  (hbody:∀ (c d:Addr) (A:Around) (outer:List Env) (s:Shared) (H:Hp),bN k (A.deeper (PySem.W.envX q scope s.heap.objs.size f (.ref d) [(nm,c)]))->
   ∃ t t3,P3 K (FO P w K mg base ps q scope nm f c d A outer s H) body t t3/\∀ Γ Q,Γ.length=ps.length + 1->S Γ Q->t3 Γ Q)
  (hbd:∀ (clos:List (Str×Addr)) (pm:Value) (d:Addr) (ct:Value) (us:Lv0),us.length=ps.length->bindArgs (PySem.W.kla_fn "<lambda>" q params body scope clos pm (.ref d) ct) ⟨us,[]⟩=pure (ps.zip us)) :
  ∃ fd,base.get? f=some (o ())/\(o ()).data=.func fd/\Binds K fd ps []/\aG P w K mg base CX0 (k + 1) f fd ps (fun vs H Q _=>sp3 K (ps.length + 1) S (vs++[v]) H Q E0):=by
 refine K2 L Sc (fun vs H Q E h=>h.1) (fun c d A outer s H vs Q hr hsp=>?_) hbd;obtain⟨t,t3,h,hS⟩:=hbody c d A outer s H hr;obtain⟨hl,F,own,Γa,Q3,e,_,hs,hQ⟩:=hsp;exact⟨t,h.pe,h.rf ⟨F,H,own⟩ F _ H Γa Q3 Q e (hS Γa Q3 (by rw[<- e.len,lM0];exact hl) hs) fun v H' ⟨F',Γ',r,_,e',rv,q⟩=>hQ r Γ' q v H' F' e' rv⟩
theorem okM {P:Program} {w:World} {mg:SV} {base:Heap} {x qual:Str} {st:Stmt} {f:Addr} {fd:FuncData} {N ps:Ls0} {k:Nat} {S:S3} (F:Fun K x qual st f fd) (Sc:aq N ps (ae st)) (hN:autoParam (ps.length<=N.length) d0)
  (hbody:∀ (cdv:Value) (A:Around) (outer:List Env) (s:Shared) (H:Hp) (E:XK),cdv=fd.code->bN k (A.deeper (envOfC qual (ae st) s.heap.objs.size f cdv))->
   ∃ t t3,lR K (yk CX0 P w K mg base N qual (ae st) f cdv A outer s H E).nox (c7 st) t t3/\∀ Γa Q,S Γa Q->Γa.length=ps.length->t3 { nx:=fun Γ'=>Q (.fz .non) (iQ Γa Γ'),rt:=fun r Γ'=>Q r (iQ Γa Γ') } (dd N Γa)) :
  aG P w K mg base CX0 (k + 1) f fd ps (sp3 K ps.length S):=by
 obtain⟨oc,od,kV,doc,pm,an,cdv,ct,osl,rfl,lk,hcd⟩:=F.ex;refine JA lk hcd Sc (fun vs H Q E h=>h.1) fun A outer s H vs Q E hr h=>?_;obtain⟨hl,F0,own,Γa,Q3,e,hno,hS,hQ⟩:=h;obtain⟨t,t3,ht,rd⟩:=hbody cdv A outer s H E rfl hr;have hla:Γa.length=ps.length:=by rw[<- e.len,lM0];exact hl
 refine⟨t,ht.pe.nox,ht.rf ⟨F0,H,own⟩ F0 _ H _ _ { nx:=fun Γ'=>Q3 (.fz .non) (iQ Γa Γ'),rt:=fun r Γ'=>Q3 r (iQ Γa Γ') } (e.start (N:=N) (by rw[hla];exact hN)) ⟨?_,?_,fun _ _ _ _ _ _ z=>False.elim z,fun _ _ _ _ _ _ z=>False.elim z⟩ (rd Γa Q3 hS hla)⟩
 ·intro F' σ' H' Γ' s' e' q;obtain⟨a,b⟩:=e.out hno e' (v:=.non) (r:=.fz .non) rfl;exact hQ _ _ q _ _ _ a b
 ·intro F' σ' H' Γ' v r s' e' rv q;obtain⟨a,b⟩:=e.out hno e' rv;exact hQ _ _ q _ _ _ a b
end
abbrev NR:=LL0
noncomputable def bg (xss:NR):List (List D):=xss.map fun ns=>ns.map D.int
structure nV (F H:Hp) (p:Addr) (qs:La0) (xss:NR):Prop where
 sub:aB F H
 top:H p=some (.lst (qs.map V.ref))
 nd:(p::qs).Nodup
 len:qs.length=xss.length
 row:∀ (i:Nat) (q:Addr) (xs:Li0),qs[i]?=some q->xss[i]?=some xs->H q=some (.lst (xs.map V.int))
 no:∀ z,z∈p::qs->F z=none
structure Step (H0:Hp) (own:La0) (H:Hp) (qs:La0):Prop where
 keep:∀ b o,H0 b=some o->b∉own->H b=some o
 dom:∀ b,H b=none->H0 b=none
 new:∀ q,q∈qs->q∈own\/H0 q=none
abbrev E0n (K:Fg0) (F:Hp) (σ:L2.St) (H:Hp) (Γ:G):Prop:=En K ⟨F,H,[]⟩ F σ H Γ
section
variable {K:Fg0} {X:Cx} {F F':Hp} {σ σ':L2.St} {H H' H0:Hp} {Γ Γ':G} {pos:Pos} {i:Nat} {p:Addr} {qs own:La0} {xss:NR}
theorem Cq (sub:aB F H) (len:σ.length=Γ.length) (fz:∀ (k:Nat) (s:Sl),Γ[k]?=some (some s)->∃ d v,s=.fz d/\σ[k]?=some (some v)/\Rep K F d v):E0n K F σ H Γ where
 sub:=sub
 len:=len
 fz:=fun k d h=>by obtain⟨d',v,e,a,b⟩:=fz k _ h;cases e;exact⟨v,a,b⟩
 hl:=fun k d h=>by rcases h with h | h <;> (obtain⟨_,_,e,_⟩:=fz k _ h;cases e)
 ow:=fun k d q h=>by obtain⟨_,_,e,_⟩:=fz k _ h;cases e
 ln:=fun k d q h=>by obtain⟨_,_,e,_⟩:=fz k _ h;cases e
 dis:=fun k j d e q h=>by rcases h with h | h <;> (obtain⟨_,_,e,_⟩:=fz k _ h;cases e)
 par:=fun k q h=>nomatch h
 keep:=aB.refl F
 new:=fun b o h=>.inl h
 rest:=fun b o h _=>h
 dom:=fun b h=>h
theorem E0n.all (e:E0n K F σ H Γ) {k:Nat} {s:Sl} (h:Γ[k]?=some (some s)):∃ d v,s=.fz d/\σ[k]?=some (some v)/\Rep K F d v:=by
 cases s with
 | fz d=>obtain⟨v,a,b⟩:=e.fz k d h;exact⟨d,v,rfl,a,b⟩
 | ow d=>
  obtain⟨q,a,_,o⟩:=e.hl k d (.inl h);obtain⟨u,hu⟩:=o.some;have:=e.ow k d q h a;rw[show (⟨F,H,[]⟩:Bs).H q=H q from rfl,hu] at this;cases this
 | ln d=>
  obtain⟨q,a,_,o⟩:=e.hl k d (.inr h);exact nomatch e.ln k d q h a
theorem E0n.move (e:E0n K F σ H Γ) (s:aB F F') (sub:aB F' H'):E0n K F' σ H' Γ:=Cq sub e.len fun k s' h=>by
 obtain⟨d,v,a,b,c⟩:=e.all h;exact⟨d,v,a,b,c.mono s⟩
theorem E0n.put (e:E0n K F σ H Γ) {j:Nat} {d:D} {v:V} (hj:j < Γ.length) (r:Rep K F d v):E0n K F (σ.set j (some v)) H (Γ.set j (some (.fz d))):=Cq e.sub (by rw[List.length_set,List.length_set];exact e.len) fun k s h=>by
 by_cases z:k=j
 ·subst z;rw[aw hj] at h;cases h;exact⟨d,v,rfl,aw (by rw[e.len];exact hj),r⟩
 ·rw[aC (Ne.symm z)] at h ⊢;exact e.all h
theorem E0n.see (e:E0n K F σ H Γ) {j:Nat} {d:D} {v:V} (hs:σ[j]?=some (some v)) (r:Rep K F d v):E0n K F σ H (Γ.set j (some (.fz d))):=Cq e.sub (by rw[List.length_set];exact e.len) fun k s h=>by
 by_cases z:k=j
 ·subst z;have hj:k < Γ.length:=by rw[<- e.len];exact(gS0 hs).1
  rw[aw hj] at h;cases h;exact⟨d,v,rfl,hs,r⟩
 ·rw[aC (Ne.symm z)] at h;exact e.all h
structure NSt (K:Fg0) (H0:Hp) (own:La0) (i:Nat) (p:Addr) (F:Hp) (σ:L2.St) (H:Hp) (Γ:G) (xss:NR):Prop where
 e:E0n K F σ H Γ
 at_:Γ[i]?=some (some (.fz (.adr p)))
 n:∃ qs,nV F H p qs xss/\Step H0 own H qs
 po:p∈own
theorem nV.grow (n:nV F H p qs xss) (s:aB H H') (sub:aB F' H') (hn:∀ b o,F' b=some o->F b=some o\/H b=none):nV F' H' p qs xss where
 sub:=sub
 top:=s _ _ n.top
 nd:=n.nd
 len:=n.len
 row:=fun i q xs a b=>s _ _ (n.row i q xs a b)
 no:=fun z hz=>by
  cases q:F' z with
  | none=>rfl
  | some o=>
   exfalso;rcases hn z o q with h | h
   ·rw[n.no z hz] at h;cases h
   ·rcases List.mem_cons.mp hz with e | hm
    ·rw[e,n.top] at h;cases h
    ·obtain⟨k,hk⟩:=List.mem_iff_getElem?.mp hm;have lk:k < xss.length:=by rw[<- n.len];exact(gS0 hk).1
     rw[n.row k z _ hk (gE0 lk)] at h;cases h
theorem Step.grow (n:Step H0 own H qs) (s:aB H H'):Step H0 own H' qs:=⟨fun b o h hb=>s _ _ (n.keep b o h hb),fun b h=>n.dom b (by
 cases q:H b with
 | none=>rfl
 | some o=>rw[s _ _ q] at h;cases h),n.new⟩
theorem NSt.grow (t:NSt K H0 own i p F σ H Γ xss) (s:aB H H') (sF:aB F F') (sub:aB F' H') (hn:∀ b o,F' b=some o->F b=some o\/H b=none):NSt K H0 own i p F' σ H' Γ xss:=by
 obtain⟨qs,n,st⟩:=t.n;exact⟨t.e.move sF sub,t.at_,⟨qs,n.grow s sub hn,st.grow s⟩,t.po⟩
theorem NSt.up (t:NSt K H0 own i p F σ H Γ xss) (s:aB H H'):NSt K H0 own i p F σ H' Γ xss:=t.grow s (aB.refl F) (t.e.sub.trans s) fun _ _ h=>.inl h
noncomputable def jS (F H:Hp) (l:La0):Hp:=fun b=>if b∈l then H b else F b
theorem vC {l:La0}:∀ {qs:La0} {xss:NR},qs.length=xss.length->(∀ q,q∈qs->q∈l)->(∀ (i:Nat) (q:Addr) (xs:Li0),qs[i]?=some q->xss[i]?=some xs->H q=some (.lst (xs.map V.int)))->
  aD K (jS F H l) (xss.map fun ns=>D.lst (ns.map D.int)) (qs.map V.ref)
 | [],[],_,_,_=>rfl
 | [],_::_,h,_,_=>nomatch h
 | _::_,[],h,_,_=>nomatch h
 | q::qs,xs::xss,h,hm,hr=>⟨_,_,rfl,⟨q,_,rfl,by unfold jS;rw[if_pos (hm q (.head _))];exact hr 0 q xs rfl rfl,aD.ints xs⟩,vC (Nat.succ.inj h) (fun z hz=>hm z (.tail _ hz)) fun i q' xs' a b=>hr (i + 1) q' xs' a b⟩
theorem nV.IW (n:nV F H p qs xss):aB F (jS F H (p::qs)):=fun b o h=>by
 unfold jS;rw[if_neg]
 ·exact h
 ·intro z;rw[n.no b z] at h;cases h
theorem nV.IV (n:nV F H p qs xss) {l:La0}:aB (jS F H l) H:=fun b o h=>by
 unfold jS at h;split at h
 ·exact h
 ·exact n.sub b o h
theorem NSt.view (t:NSt K H0 own i p F σ H Γ xss):∃ Fv,aB F Fv/\E0n K Fv σ H (Γ.set i (some (.fz (.lst (xss.map fun ns=>D.lst (ns.map D.int)))))):=by
 obtain⟨qs,n,_⟩:=t.n;refine⟨jS F H (p::qs),n.IW,(t.e.move n.IW n.IV).see (v:=.ref p) ?_ ⟨p,_,rfl,by unfold jS;rw[if_pos (.head _)];exact n.top,vC n.len (fun q h=>.tail _ h) n.row⟩⟩;obtain⟨v,a,b⟩:=t.e.fz i _ t.at_;rw[a,show v=.ref p from b]
def KS (R:Li0->Prop) (_:Tag R):RV->G->Prop:=fun r _=>∃ ns:Li0,r=.fr (.lst (ns.map D.int))/\R ns
noncomputable def D8 (i:Nat) (Γ:G) (xss:NR):G:=Γ.set i (some (.fz (.lst (xss.map fun ns=>D.lst (ns.map D.int)))))
theorem NSt.eval {te:TE} {e3:TE3} {R:Li0->Prop} {QQ:VK} (t:NSt K H0 own i p F σ H Γ xss) (he:Ref K te e3) (h3:e3 (D8 i Γ xss) (KS R ⟨⟩))
  (k:∀ z H' ns,R ns->H z=none->aB H H'->H' z=some (.lst (ns.map V.int))->QQ (.ref z) H'):te σ H QQ:=by
 obtain⟨Fv,_,ev⟩:=t.view;refine he _ Fv σ H _ _ QQ ev h3 fun v H' Z=>?_;obtain⟨F',Γ',r,sF,e',rv,ns,hr,hR⟩:=Z;subst hr;obtain⟨z,rfl,_,⟨vs,hv,rl⟩,hB,_⟩:=rv;rw[rl.kX] at hv;exact k z H' ns hR hB (fun b o h=>e'.rest b o h fun _ q=>nomatch q) hv
abbrev TN:=(G->NR->Prop)->G->NR->Prop
def Nq (K:Fg0) (i:Nat) (t:TS) (n3:TN):Prop:=∀ (H0:Hp) (own:La0) (p:Addr) (F:Hp) (σ:L2.St) (H:Hp) (Γ:G) (xss:NR) (D:Ends) (k:G->NR->Prop),NSt K H0 own i p F σ H Γ xss->
 (∀ F' σ' H' Γ' yss,aB F F'->NSt K H0 own i p F' σ' H' Γ' yss->k Γ' yss->D.nx σ' H')->n3 k Γ xss->t D σ H
structure N3S (K:Fg0) (X:Cx) (i:Nat) (st:Stmt) (t:TS) (n3:TN):Prop where
 pe:PS X st t
 rf:Nq K i t n3
structure Ab (K:Fg0) (X:Cx) (i:Nat) (st:List Stmt) (t:TS) (n3:TN):Prop where
 pe:PSs X st t
 rf:Nq K i t n3
variable {st:Stmt} {rest ss:List Stmt} {t u:TS} {n3 m3:TN}
def I_:TN:=fun k Γ xss=>k Γ xss
theorem E9:Ab K X i [] DV I_:=⟨BM,fun H0 own p F σ H Γ xss D k s kk q=>kk F σ H Γ xss (aB.refl F) s q⟩
theorem kT (h:N3S K X i st t n3):Ab K X i [st] t n3:=⟨BL h.pe,h.rf⟩
theorem BW (h:N3S K X i st t n3) (h2:Ab K X i rest u m3):Ab K X i (st::rest) (CN t u) (fun k=>n3 (m3 k)):=⟨oi h.pe h2.pe,fun H0 own p F σ H Γ xss D k s kk q=>
 h.rf H0 own p F σ H Γ xss _ _ s (fun F' σ' H' Γ' yss sF s' q'=>h2.rf H0 own p F' σ' H' Γ' yss D k s' (fun F2 σ2 H2 Γ2 zss s2=>kk F2 σ2 H2 Γ2 zss (sF.trans s2)) q') q⟩
theorem xJ {n k:Nat} (h:k < n):ixN n (k:Int)=some k:=by
 unfold ixN;rw[if_pos (by omega),if_pos (by omega),Int.toNat_natCast]
def r_ (i j:Nat) (e3:TE3):TN:=fun k Γ xss=>e3 (D8 i Γ xss) (KS (fun ns=>∃ y:Nat,Γ[j]?=some (some (.fz (.int y)))/\y < xss.length/\k Γ (xss.set y ns)) ⟨⟩)
theorem Dc {α:Type} [DecidableEq α] {l:List α} {a:α} (h:l.Nodup) (ha:a∉l):∀ {k:Nat},(l.set k a).Nodup:=by
 induction l with
 | nil=>intro k;exact h
 | cons x l ih=>
  obtain⟨h1,h2⟩:=List.nodup_cons.mp h;intro k;cases k with
  | zero=>exact List.nodup_cons.mpr ⟨fun z=>ha (.tail _ z),h2⟩
  | succ k=>
   refine List.nodup_cons.mpr ⟨fun z=>?_,ih h2 (fun z=>ha (.tail _ z))⟩;rcases List.mem_or_eq_of_mem_set z with q | q
   ·exact h1 q
   ·exact ha (q ▸ .head _)
theorem Dg {j:Nat} {te:TE} {e3:TE3} (h:PS X st (hU te (uw (cH i) (cH j) kL))) (he:Ref K te e3):N3S K X i st (hU te (uw (cH i) (cH j) kL)) (r_ i j e3):=⟨h,fun H0 own p F σ H Γ xss D k s kk q=>by
 refine s.eval he q fun z H' ns ⟨y,hy,ly,q⟩ hz sH hv=>?_;obtain⟨v,a,b⟩:=s.e.fz i _ s.at_;obtain⟨vy,ay,by_⟩:=s.e.fz j _ hy;have s1:=s.up sH;obtain⟨qs,n,sp⟩:=s1.n;have ly':y < qs.length:=by rw[n.len];exact ly
 have zp:z≠p:=fun e=>by
  obtain⟨qs0,n0,_⟩:=s.n;rw[e,n0.top] at hz;cases hz
 have zq:z∉p::qs:=fun hm=>by
  obtain⟨qs0,n0,_⟩:=s.n;have e0:qs0=qs:=by
   have h1:=sH _ _ n0.top;rw[n.top] at h1;have h2:qs.map V.ref=qs0.map V.ref:=by injection (Option.some.inj h1)
   exact((List.map_inj_right (fun a b (h:V.ref a=V.ref b)=>by injection h)).mp h2).symm
  subst e0;rcases List.mem_cons.mp hm with e | hm
  ·exact zp e
  ·obtain⟨m,hm⟩:=List.mem_iff_getElem?.mp hm;have lm:m < xss.length:=by rw[<- n0.len];exact(gS0 hm).1
   rw[n0.row m z _ hm (gE0 lm)] at hz;cases hz
 refine⟨v,a,vy,ay,p,_,(y:Int),y,b,by_,n.top,?_,?_⟩
 ·rw[lM0];exact xJ ly'
 ·have fz:F z=none:=by
   cases q:F z with
   | none=>rfl
   | some o=>rw[s.e.sub _ _ q] at hz;cases hz
  have fp:F p=none:=n.no p (.head _);have sub':aB F (upd H' p (.lst ((qs.map V.ref).set y (.ref z)))):=fun b o hb=>by rw[ah (aF hb fp)];exact s1.e.sub b o hb
  refine kk F σ _ Γ _ (aB.refl F) ⟨s1.e.move (aB.refl F) sub',s.at_,⟨qs.set y z,⟨sub',?_,?_,?_,?_,?_⟩,⟨?_,?_,?_⟩⟩,s.po⟩ q
  ·rw[ar,List.map_set]
  ·obtain⟨n1,n2⟩:=List.nodup_cons.mp n.nd;refine List.nodup_cons.mpr ⟨fun hm=>?_,Dc n2 fun hm=>zq (.tail _ hm)⟩;rcases List.mem_or_eq_of_mem_set hm with e | e
   ·exact n1 e
   ·exact zp e.symm
  ·rw[List.length_set,List.length_set];exact n.len
  ·intro m q' xs h1 h2;by_cases e:m=y
   ·subst e;rw[aw ly'] at h1;rw[aw ly] at h2;cases h1;cases h2;rw[ah zp];exact hv
   ·rw[aC (Ne.symm e)] at h1 h2;have qp:q'≠p:=fun z=>(List.nodup_cons.mp n.nd).1 (z ▸ List.mem_of_getElem? h1);rw[ah qp];exact n.row m q' xs h1 h2
  ·intro w hw;rcases List.mem_cons.mp hw with e | hw
   ·rw[e];exact fp
   ·rcases List.mem_or_eq_of_mem_set hw with e | e
    ·exact n.no w (.tail _ e)
    ·rw[e];exact fz
  ·intro b o hb hn;have:b≠p:=fun e=>hn (e ▸ s.po);rw[ah this];exact sp.keep b o hb hn
  ·intro b hb;by_cases e:b=p
   ·subst e;rw[ar] at hb;cases hb
   ·rw[ah e] at hb;exact sp.dom b hb
  ·intro w hw;rcases List.mem_or_eq_of_mem_set hw with e | e
   ·exact sp.new w e
   ·rw[e];obtain⟨_,_,sp0⟩:=s.n;exact .inr (sp0.dom z hz)⟩
end
section
variable {K:Fg0} {X:Cx} {F F':Hp} {σ σ':L2.St} {H H' H0:Hp} {Γ Γ':G} {pos:Pos} {i:Nat} {p:Addr} {qs own:La0} {xss:NR}
variable {st:Stmt} {rest ss:List Stmt} {t u:TS} {n3 m3:TN}
theorem NSt.LD (t:NSt K H0 own i p F σ H Γ xss) (n:nV F H p qs xss):∃ Fv,E0n K Fv σ H (Γ.set i (some (.fz (.lst (qs.map D.adr))))):=by
 have s1:aB F (jS F H [p]):=fun b o h=>by
  unfold jS;rw[if_neg]
  ·exact h
  ·intro z;rw[List.mem_singleton] at z;rw[z,n.no p (.head _)] at h;cases h
 refine⟨jS F H [p],(t.e.move s1 n.IV).see (v:=.ref p) ?_ ⟨p,_,rfl,by unfold jS;rw[if_pos (.head _)];exact n.top,oh⟩⟩;obtain⟨v,a,b⟩:=t.e.fz i _ t.at_;rw[a,show v=.ref p from b]
theorem Jc {α:Type}:∀ {l:List α} {m k:Nat} {a:α},l.Nodup->l[m]?=some a->l[k]?=some a->m=k
 | [],_,_,_,_,h,_=>by simp at h
 | x::l,0,0,_,_,_,_=>rfl
 | x::l,0,k + 1,a,nd,h1,h2=>by
  cases h1;exact absurd (List.mem_of_getElem? (l:=l) (i:=k) h2) (List.nodup_cons.mp nd).1
 | x::l,m + 1,0,a,nd,h1,h2=>by
  cases h2;exact absurd (List.mem_of_getElem? (l:=l) (i:=m) h1) (List.nodup_cons.mp nd).1
 | x::l,m + 1,k + 1,a,nd,h1,h2=>by rw[Jc (List.nodup_cons.mp nd).2 (m:=m) (k:=k) h1 h2]
def BD (jy jx jn:Nat):TN:=fun k Γ xss=>∃ (y x:Nat) (n:Int) (xs:Li0),Γ[jy]?=some (some (.fz (.int y)))/\Γ[jx]?=some (some (.fz (.int x)))/\Γ[jn]?=some (some (.fz (.int n)))/\xss[y]?=some xs/\x < xs.length/\k Γ (xss.set y (xs.set x n))
theorem Dh {jy jx jn:Nat} {to:TE} (hi:i≠jy) (h:PS X st (hU (cH jn) (uw to (cH jx) kL))) (ho:Ref K to (nk ix3 (bor i) (bor jy))):N3S K X i st (hU (cH jn) (uw to (cH jx) kL)) (BD jy jx jn):=⟨h,fun H0 own p F σ H Γ xss DD k s kk Z=>by
 obtain⟨y,x,n,xs,hy,hx,hn,hr,lx,q⟩:=Z;obtain⟨vn,an,bn⟩:=s.e.fz jn _ hn;obtain⟨vx,ax,bx⟩:=s.e.fz jx _ hx;obtain⟨qs,ns,sp⟩:=s.n;obtain⟨Fv,ev⟩:=s.LD ns;have ly:y < xss.length:=(gS0 hr).1;have ly':y < qs.length:=by rw[ns.len];exact ly
 have hq:qs[y]?=some qs[y]:=gE0 ly';have il:i < Γ.length:=(gS0 s.at_).1;refine⟨vn,an,?_⟩;refine ho _ Fv σ H _ (fun r _=>r=.fz (.adr qs[y])) _ ev ?_ fun v H' ⟨F',Γ',r,sF,e',rv,hr'⟩=>?_
 ·have g1:Gat (Γ.set i (some (.fz (.lst (qs.map D.adr))))) i=some (.lst (qs.map D.adr)):=by unfold Gat;rw[aw il]
  have g2:Gat (Γ.set i (some (.fz (.lst (qs.map D.adr))))) jy=some (.int y):=by unfold Gat;rw[aC hi,hy]
  refine⟨⟨_,g1⟩,⟨_,g2⟩,.lst (qs.map D.adr),.int y,g1,g2,.adr qs[y],?_,rfl⟩;unfold L2.atI;rw[lM0,xJ ly'];show (qs.map D.adr)[y]?=_;rw[List.getElem?_map,hq];rfl
 ·subst hr';have ev':v=.ref qs[y]:=rv;subst ev';have sH:aB H H':=fun b o h=>e'.rest b o h fun _ q=>nomatch q
  have s1:=s.up sH;have n1:=ns.grow sH (ns.sub.trans sH) fun _ _ h=>.inl h;have sp1:=sp.grow sH;have gP:=n1.row y _ _ hq hr;refine⟨vx,ax,qs[y],_,(x:Int),x,rfl,bx,gP,by rw[lM0];exact xJ lx,?_⟩;rw[show vn=.int n from bn];have hqm:qs[y]∈qs:=List.getElem_mem ly';have fq:F qs[y]=none:=n1.no _ (.tail _ hqm);have qp:qs[y]≠p:=fun z=>(List.nodup_cons.mp n1.nd).1 (z ▸ hqm);have sub':aB F (upd H' qs[y] (.lst ((xs.map V.int).set x (.int n)))):=fun b o hb=>by rw[ah (aF hb fq)];exact n1.sub b o hb
  refine kk F σ _ Γ _ (aB.refl F) ⟨s1.e.move (aB.refl F) sub',s.at_,⟨qs,⟨sub',?_,n1.nd,?_,?_,n1.no⟩,⟨?_,?_,sp1.new⟩⟩,s.po⟩ q
  ·rw[ah (Ne.symm qp)];exact n1.top
  ·rw[List.length_set];exact n1.len
  ·intro m q' zs h1 h2;by_cases e:m=y
   ·subst e;rw[hq] at h1;rw[aw ly] at h2;cases h1;cases h2;rw[ar,List.map_set]
   ·rw[aC (Ne.symm e)] at h2;have ne:q'≠qs[y]:=fun z=>by
     subst z;have nd:=(List.nodup_cons.mp n1.nd).2;exact e (Jc nd h1 hq)
    rw[ah ne];exact n1.row m q' zs h1 h2
  ·intro b o hb hn;have:b≠qs[y]:=fun e=>by
    rcases sp1.new _ hqm with w | w
    ·exact hn (e ▸ w)
    ·rw[e,w] at hb;cases hb
   rw[ah this];exact sp1.keep b o hb hn
  ·intro b hb;by_cases e:b=qs[y]
   ·subst e;rw[ar] at hb;cases hb
   ·rw[ah e] at hb;exact sp1.dom b hb⟩
def B4 (i l:Nat) (e3:TE3):TN:=fun k Γ xss=>e3 (D8 i Γ xss) (KS (fun ns=>l < Γ.length/\k (Γ.set l (some (.fz (.lst (ns.map D.int))))) xss) ⟨⟩)
theorem HN {l:Nat} {te:TE} {e3:TE3} (hl:i≠l) (h:PS X st (hU te (i9 l))) (he:Ref K te e3):N3S K X i st (hU te (i9 l)) (B4 i l e3):=⟨h,fun H0 own p F σ H Γ xss DD k s kk q=>by
 refine s.eval he q fun z H' ns ⟨lG,q⟩ hz sH hv=>?_;have fz:F z=none:=by
  cases q:F z with
  | none=>rfl
  | some o=>rw[s.e.sub _ _ q] at hz;cases hz
 have sF:aB F (upd F z (.lst (ns.map V.int))):=aY fz;have sub:aB (upd F z (.lst (ns.map V.int))) H':=fun b o h=>by
  by_cases e:b=z
  ·subst e;rw[ar] at h;cases h;exact hv
  ·rw[ah e] at h;exact sH _ _ (s.e.sub _ _ h)
 have s1:=s.grow (F':=upd F z (.lst (ns.map V.int))) sH sF sub fun b o h=>by
  by_cases e:b=z
  ·subst e;exact .inr hz
  ·rw[ah e] at h;exact .inl h
 exact kk _ _ H' _ xss sF ⟨s1.e.put (d:=.lst (ns.map D.int)) (v:=.ref z) lG ⟨z,_,rfl,ar,aD.ints ns⟩,by rw[aC (Ne.symm hl)];exact s.at_,s1.n,s.po⟩ q⟩
end
def spN (K:Fg0) (n:Nat) (S:List D->NR->(NR->Prop)->Prop):Sp:=fun vs H Q _=>vs.length=n/\∃ F ds p qs xss k3,aD K F ds vs/\ds[1]?=some (.adr p)/\nV F H p qs xss/\S ds xss k3/\
 ∀ yss,k3 yss->∀ H' qs',nV F H' p qs' yss->Step H (p::qs) H' qs'->Q .non H'
section
variable {K:Fg0} {X:Cx} {F F':Hp} {σ σ':L2.St} {H H' H0:Hp} {Γ Γ':G} {pos:Pos} {i:Nat} {p:Addr} {qs own:La0} {xss:NR}
variable {st:Stmt} {rest ss:List Stmt} {t u:TS} {n3 m3:TN}
def ifN (A3:TT3) (n3 m3:TN):TN:=fun k Γ xss=>A3 Γ fun c Γ1=>Γ1=Γ/\match c with
 | true=>n3 k Γ xss
 | false=>m3 k Γ xss
theorem Jd {c:Expr} {a b:List Stmt} {tc:TT} {A3:TT3} (hc:P3T K X c tc A3) (ha:Ab K X i a t n3) (hb:Ab K X i b u m3):N3S K X i (.If c a b pos) (J2 tc t u) (ifN A3 n3 m3):=⟨IZ hc.pe ha.pe hb.pe,fun H0 own p F σ H Γ xss DD k s kk q=>by
 refine hc.rf _ F σ H Γ _ _ s.e q fun c H' Z=>?_;obtain⟨F',Γ',sF,e',_,q'⟩:=Z;have s1:=s.up (H':=H') fun b o h=>e'.rest b o h fun _ q=>nomatch q
 cases c with
 | true=>exact ha.rf H0 own p F σ H' Γ xss DD k s1 kk q'
 | false=>exact hb.rf H0 own p F σ H' Γ xss DD k s1 kk q'⟩
def Le (i:Nat) (xs:List D) (Γ:G) (xss:NR) (g3:TG3) (b3:TN) (k:G->NR->Prop) (_:Tag (g3,b3,k)):Prop:=∃ Iv:Nat->G->NR->Prop,Iv 0 Γ xss/\(∀ m d Γ yss,xs[m]?=some d->Iv m Γ yss->g3 d Γ fun Γ'=>Γ'[i]?=Γ[i]?/\b3 (Iv (m + 1)) Γ' yss)/\∀ Γ yss,Iv xs.length Γ yss->k Γ yss
def FE (i:Nat) (i3:TI3) (g3:TG3) (b3:TN):TN:=fun k Γ xss=>i3 Γ fun xs Γ1=>Γ1=Γ/\Le i xs Γ xss g3 b3 k ⟨⟩
theorem uA {i3:TI3} {g3:TG3} {b3:TN} {k:G->NR->Prop}:FE i i3 g3 b3 k Γ xss=i3 Γ fun xs Γ1=>Γ1=Γ/\Le i xs Γ xss g3 b3 k ⟨⟩:=rfl
theorem x9 {xs:List D} {g3:TG3} {b3:TN} {k:G->NR->Prop} {t:Tag (g3,b3,k)} (Iv:Nat->G->NR->Prop) (h0:Iv 0 Γ xss) (ht:∀ m d Γ yss,xs[m]?=some d->Iv m Γ yss->g3 d Γ fun Γ'=>Γ'[i]?=Γ[i]?/\b3 (Iv (m + 1)) Γ' yss) (he:∀ Γ yss,Iv xs.length Γ yss->k Γ yss):Le i xs Γ xss g3 b3 k t:=⟨Iv,h0,ht,he⟩
theorem AO {tg iter:Expr} {body:List Stmt} {wi:TI} {i3:TI3} {g:TG} {g3:TG3} {tb:TS} {b3:TN} (hp:PassesOwn (model X.prog X.w) X.A X.env X.xe) (hc:X.calm=true) (hi:P3I K X tg iter wi i3) (hg:P3G K X tg g g3) (hb:Ab K X i body tb b3) (hs:autoParam (∀ x,foldedSetIterable iter X.env x=pure x) j0) :
  N3S K X i (.For tg iter body [] pos) (J3 wi g tb) (FE i i3 g3 b3):=⟨Ex hp hc hi.pe hg.pe hb.pe hs,fun H0 own p F σ H Γ xss DD k s kk q=>by
 refine hi.rf _ F σ H Γ _ _ s.e q fun J H1 F1 Γ1 xs s1 e1 R Z=>?_;obtain⟨eΓ,Iv,i0,it,ie⟩:=Z;have t1:NSt K H0 own i p F1 σ H1 Γ xss:=s.grow (fun b o h=>e1.rest b o h fun _ q=>nomatch q) s1 e1.sub fun b o h=>e1.new b o h;refine⟨fun m n σ H=>n=xs.length - m/\m<=xs.length/\∃ F' Γ' yss,aB F1 F'/\NSt K H0 own i p F' σ H Γ' yss/\Iv m Γ' yss,⟨_,rfl,Nat.zero_le _,F1,Γ,xss,aB.refl _,t1,i0⟩,?_⟩;rintro m n σ2 H2 ⟨rfl,hm,F2,Γ2,yss,s2,t2,iv⟩;by_cases lt:m < xs.length
 ·refine .inr ⟨R.go m H2 (s2.trans t2.e.sub) lt,fun σ' H'=>∃ F' Γ' yss,aB F1 F'/\NSt K H0 own i p F' σ' H' Γ' yss/\Iv (m + 1) Γ' yss,fun σ' H' ⟨F',Γ',zss,a,b,c⟩=>⟨xs.length - (m + 1),by omega,rfl,lt,F',Γ',zss,a,b,c⟩,fun x H3 y=>?_⟩;have hd:xs[m]?=some xs[m]:=gE0 lt;obtain⟨F3,s3,e3,r3⟩:=R.turn s2 t2.e hd y;have t3:NSt K H0 own i p F3 σ2 H3 Γ2 yss:=t2.grow (fun b o h=>e3.rest b o h fun _ q=>nomatch q) s3 e3.sub fun b o h=>e3.new b o h;refine hg.rf _ F3 σ2 H3 Γ2 x _ _ _ t3.e r3 (it m _ Γ2 yss hd iv) fun σ' Γ' e4 Z=>?_;obtain⟨a4,q4⟩:=Z;have t4:NSt K H0 own i p F3 σ' H3 Γ' yss:=⟨e4,a4.trans t3.at_,t3.n,t3.po⟩;exact hb.rf H0 own p F3 σ' H3 Γ' yss _ (Iv (m + 1)) t4 (fun F' σ' H' Γ' zss sF t' q'=>⟨F',Γ',zss,(s2.trans s3).trans sF,t',q'⟩) q4
 ·have z:m=xs.length:=by omega
  subst z;exact .inl ⟨R.stop _ H2 (s2.trans t2.e.sub) rfl,kk F2 σ2 H2 Γ2 yss (s1.trans s2) t2 (ie Γ2 yss iv)⟩⟩
theorem Gp:∀ {ds:List D} {vs:List V},a9 K F σ (ds.map Bo.d) vs->aD K F ds vs
 | [],_,h=>h
 | d::ds,_,⟨v,ws,h1,h2,h3⟩=>⟨v,ws,h1,h2,Gp h3⟩
def Gg (i n:Nat) (S:List D->NR->(NR->Prop)->Prop) (t3:eA):TN:=fun k Γ xss=>t3 Γ fun bs _=>bs.length=n/\∃ ds p,bs=ds.map Bo.d/\ds[1]?=some (.adr p)/\Γ[i]?=some (some (.fz (.adr p)))/\S ds xss fun yss=>k Γ yss
theorem nV.less (s:aB F F') (n:nV F' H p qs xss):nV F H p qs xss:=⟨s.trans n.sub,n.top,n.nd,n.len,n.row,fun z hz=>by
 cases q:F z with
 | none=>rfl
 | some o=>have:=s _ _ q;rw[n.no z hz] at this;cases this⟩
theorem Step.trans {H1 H2:Hp} {qs1 qs2:La0} (a:Step H0 own H1 qs1) (hp:p∈own) (b:Step H1 (p::qs1) H2 qs2):Step H0 own H2 qs2 where
 keep:=fun x o h hn=>b.keep x o (a.keep x o h hn) fun z=>by
  rcases List.mem_cons.mp z with e | z
  ·exact hn (e ▸ hp)
  ·rcases a.new x z with w | w
   ·exact hn w
   ·rw[w] at h;cases h
 dom:=fun x h=>a.dom x (b.dom x h)
 new:=fun q h=>by
  rcases b.new q h with w | w
  ·rcases List.mem_cons.mp w with e | w
   ·exact .inl (e ▸ hp)
   ·exact a.new q w
  ·exact .inr (a.dom q w)
theorem HP {n:Nat} {S:List D->NR->(NR->Prop)->Prop} {e:Expr} {ta:TA} {t3:eA} {E:XK} (h:PS X st (sX (kr (spN K n S) [] E ta))) (ha:rm K ta t3):N3S K X i st (sX (kr (spN K n S) [] E ta)) (Gg i n S t3):=⟨h,fun H0 own p F σ H Γ xss DD k s kk q=>by
 refine ha _ F σ H Γ _ _ s.e q fun vs H1 Z=>?_;obtain⟨F1,Γ1,bs,s1,e1,r1,hn,ds,p',hb,hp',hi,q1⟩:=Z;have ep:p'=p:=by rw[s.at_] at hi;cases hi;rfl
 subst ep hb;have t1:NSt K H0 own i p' F1 σ H1 Γ xss:=s.grow (fun b o h=>e1.rest b o h fun _ q=>nomatch q) s1 e1.sub fun b o h=>e1.new b o h;obtain⟨qs,ns,sp⟩:=t1.n;have rl:=Gp r1;show spN K n S (vs++[]) H1 _ E;rw[List.append_nil];refine⟨by rw[rl.length,<- hn,lM0],F1,ds,p',qs,xss,_,rl,hp',ns,q1,fun yss ky H' qs' n' st'=>?_⟩;exact kk F1 σ H' Γ yss s1 ⟨t1.e.move (aB.refl _) n'.sub,s.at_,⟨qs',n',sp.trans s.po st'⟩,s.po⟩ ky⟩
end
section
variable {P:Program} {w:World} {K:Fg0} {mg:SV} {base:Heap}
noncomputable def tw (N:Ls0) (ds:List D):G:=(ds.map fun d=>some (Sl.fz d))++List.replicate (N.length - ds.length) none
theorem okN {x qual:Str} {st:Stmt} {f:Addr} {fd:FuncData} {N ps:Ls0} {k:Nat} {S:List D->NR->(NR->Prop)->Prop} (F:Fun K x qual st f fd) (Sc:aq N ps (ae st)) (hn:autoParam (ps.length<=N.length) d0)
  (hbody:∀ (cdv:Value) (A:Around) (outer:List Env) (s:Shared) (H:Hp) (E:XK),bN k (A.deeper (envOfC qual (ae st) s.heap.objs.size f cdv))->
   ∃ t n3,Ab K (yk CX0 P w K mg base N qual (ae st) f cdv A outer s H E).nox 1 (c7 st) t n3/\∀ ds xss k3,S ds xss k3->ds.length=ps.length->n3 (fun _ yss=>k3 yss) (tw N ds) xss) :
  aG P w K mg base CX0 (k + 1) f fd ps (spN K ps.length S):=by
 refine F.ok Sc (fun vs H Q E h=>h.1) fun cdv A outer s H vs Q E hr h=>?_;obtain⟨hl,F0,ds,p,qs,xss,k3,rl,hp,ns,hS,hQ⟩:=h;obtain⟨t,n3,ht,rd⟩:=hbody cdv A outer s H E hr;have dl:ds.length=ps.length:=by rw[<- rl.length];exact hl
 refine⟨t,ht.pe,ht.rf H (p::qs) p F0 _ H (tw N ds) xss _ (fun _ yss=>k3 yss) ⟨Cq ns.sub ?_ ?_,?_,⟨qs,ns,⟨fun b o h _=>h,fun b h=>h,fun q h=>.inl (.tail _ h)⟩⟩,.head _⟩ (fun F' σ' H' Γ' yss sF t' ky=>?_) (rd ds xss k3 hS dl)⟩
 ·unfold L2.start tw;rw[List.length_append,List.length_append,lM0,lM0,List.length_replicate,List.length_replicate,rl.length]
 ·intro m sl hm;unfold tw at hm;by_cases lt:m < ds.length
  ·rw[List.getElem?_append_left (by rw[lM0];exact lt),List.getElem?_map] at hm;cases q:ds[m]? with
   | none=>rw[q] at hm;cases hm
   | some d=>
    rw[q] at hm;cases hm;obtain⟨v,a,b⟩:=rl.get q;refine⟨d,v,rfl,?_,b⟩;unfold L2.start;rw[List.getElem?_append_left (by rw[lM0,rl.length];exact lt),List.getElem?_map,a];rfl
  ·rw[List.getElem?_append_right (by rw[lM0];omega)] at hm;have:=(List.mem_replicate.mp (List.mem_of_getElem? hm)).2;cases this
 ·unfold tw;have lt:1 < ds.length:=(gS0 hp).1;rw[List.getElem?_append_left (by rw[lM0];exact lt),List.getElem?_map,hp];rfl
 ·obtain⟨qs',n',st'⟩:=t'.n;exact hQ yss ky H' qs' (n'.less sF) st'
end
section
variable {K:Fg0} {X:Cx} {B:Bs} {F F':Hp} {σ σ':L2.St} {H H':Hp} {Γ Γ':G} {pos:Pos} {i g:Nat} {p:Addr} {qs:La0} {xss:NR}
theorem En.heap (e:En K B F σ H Γ) {l:La0} (hk:∀ b o,H b=some o->b∉l->H' b=some o) (hd:∀ b,H' b=none->H b=none) (hz:∀ z,z∈l->F z=none/\B.H z=none/\∀ (i:Nat) (d:D),Hld Γ i d->σ[i]?≠some (some (V.ref z))):En K B F σ H' Γ where
 sub:=fun b o h=>hk b o (e.sub b o h) fun m=>by rw[(hz b m).1] at h;cases h
 len:=e.len
 fz:=e.fz
 hl:=fun i d h=>by
  obtain⟨q,a,b,c⟩:=e.hl i d h;obtain⟨o,ho⟩:=c.some;exact⟨q,a,b,c.mono (aB.refl F) ((hk q o ho fun m=>(hz q m).2.2 i d h a).trans ho.symm)⟩
 ow:=e.ow
 ln:=e.ln
 dis:=e.dis
 par:=e.par
 keep:=e.keep
 new:=e.new
 rest:=fun b o h n=>hk b o (e.rest b o h n) fun m=>by rw[(hz b m).2.1] at h;cases h
 dom:=fun b h=>e.dom b (hd b h)
theorem BH:∀ {qs:La0} {xss:NR},qs.length=xss.length->(∀ (i:Nat) (q:Addr) (xs:Li0),qs[i]?=some q->xss[i]?=some xs->H q=some (.lst (xs.map V.int)))->cU K F H qs (bg xss)
 | [],[],_,_=>rfl
 | [],_::_,h,_=>nomatch h
 | _::_,[],h,_=>nomatch h
 | q::qs,xs::xss,h,hr=>⟨_,_,_,rfl,hr 0 q xs rfl rfl,aD.ints xs,BH (Nat.succ.inj h) fun i q' xs' a b=>hr (i + 1) q' xs' a b⟩
theorem og:∀ {qs:La0} {vs:List V},aD K F (qs.map D.adr) vs->vs=qs.map V.ref
 | [],_,h=>h
 | q::qs,_,Z=>by obtain⟨v,ws,h1,h2,h3⟩:=Z;rw[h1,og h3,show v=.ref q from h2];rfl
theorem u5.slot (h:u5 Γ i g p qs (bg xss)) {z:Addr} (hz:z∈p::qs):∃ j xs,g<=j/\j < g + (qs.length + 1)/\Γ[j]?=some (some (Sl.ow (.cel z xs))):=by
 rcases List.mem_cons.mp hz with e | m
 ·subst e;exact⟨g,_,Nat.le_refl _,by omega,h.at0⟩
 ·obtain⟨k,hk⟩:=List.mem_iff_getElem?.mp m;have lk:k < qs.length:=(gS0 hk).1;have lx:k < (bg xss).length:=by rw[h.len];exact lk
  exact⟨g + 1 + k,_,by omega,by omega,h.ats k z _ hk (gE0 lx)⟩
theorem Jb {α:Type}:∀ {l:List α},(∀ (k m:Nat) (a:α),l[k]?=some a->l[m]?=some a->k=m)->l.Nodup
 | [],_=>List.nodup_nil
 | x::l,h=>List.nodup_cons.mpr ⟨fun hm=>by
  obtain⟨k,hk⟩:=List.mem_iff_getElem?.mp hm;exact absurd (h 0 (k + 1) x rfl hk) (by omega),Jb fun k m a h1 h2=>Nat.succ.inj (h (k + 1) (m + 1) a h1 h2)⟩
theorem u5.nest (h:u5 Γ i g p qs (bg xss)) (e:En K B F σ H Γ):nV F H p qs xss:=by
 have hl:qs.length=xss.length:=by have:=h.len;unfold bg at this;rw[lM0] at this;exact this.symm
 obtain⟨a0,f0,vs,t0,r0⟩:=e.adr (.inl h.at0);refine⟨e.sub,by rw[t0,og r0],?_,hl,fun k q xs h1 h2=>?_,fun z hz=>?_⟩
 ·refine List.nodup_cons.mpr ⟨fun m=>?_,?_⟩
  ·obtain⟨k,hk⟩:=List.mem_iff_getElem?.mp m;have lk:k < (bg xss).length:=by rw[h.len];exact(gS0 hk).1
   have hx:=h.ats k p _ hk (gE0 lk);obtain⟨a1,_⟩:=e.adr (.inl hx);have:=e.dis _ _ _ _ p (.inl h.at0) (.inl hx) a0 a1;omega
  ·refine Jb fun k m z hk hm=>?_;have l1:k < (bg xss).length:=by rw[h.len];exact(gS0 hk).1
   have l2:m < (bg xss).length:=by rw[h.len];exact(gS0 hm).1
   have x1:=h.ats k _ _ hk (gE0 l1);have x2:=h.ats m _ _ hm (gE0 l2);obtain⟨a1,_⟩:=e.adr (.inl x1);obtain⟨a2,_⟩:=e.adr (.inl x2);have:=e.dis _ _ _ _ _ (.inl x1) (.inl x2) a1 a2;omega
 ·have hx:(bg xss)[k]?=some (xs.map D.int):=by unfold bg;rw[List.getElem?_map,h2];rfl
  obtain⟨_,_,ws,t1,r1⟩:=e.adr (.inl (h.ats k q _ h1 hx));rw[t1,r1.kX]
 ·obtain⟨j,xs,_,_,hj⟩:=h.slot hz;exact(e.adr (.inl hj)).2.1
def Bp (i g:Nat) (S:List D->NR->(NR->Prop)->Prop) (bs:List Bo) (Γ1:G) (u3:TS3) (D1:E3) (_:Tag (u3,D1)):Prop:=∃ ds p qs xss k3,bs=ds.map Bo.d/\ds[1]?=some (.adr p)/\u5 Γ1 i g p qs (bg xss)/\S ds xss k3/\
 ∀ yss,k3 yss->yss.length=xss.length/\∀ qs':La0,qs'.length=yss.length->u3 D1 (i5 (c9 Γ1 g (qs.length + 1)) g (p::qs') (qs'.map .adr::bg yss))
def Bq (i g n:Nat) (S:List D->NR->(NR->Prop)->Prop) (t3:eA) (u3:TS3) (D1:E3) (Γ:G):Prop:=t3 Γ fun bs Γ1=>bs.length=n/\Bp i g S bs Γ1 u3 D1 ⟨⟩
theorem Eo {n:Nat} {S:List D->NR->(NR->Prop)->Prop} {e:Expr} {rest:List Stmt} {ta:TA} {t3:eA} {E:XK} {u:TS} {u3:TS3} (L i g:Nat) (hL:L<=g) (P:DM X L) (h:PE X e (kr (spN K n S) [] E ta)) (ha:rm K ta t3) (h2:lR K X rest u u3)
  (hs:autoParam (swapsWith e none pos.line X.env=pure false) r0):lR K X (.Expr e pos::rest) (CN (sX (kr (spN K n S) [] E ta)) (tGh L u)) (Bq i g n S t3 u3):=⟨oi (xg h hs) (Et P h2.pe),fun B F σ H Γ DD D3 e k q=>by
 refine ha B F σ H Γ _ _ e q fun vs H1 Z=>?_;obtain⟨F1,Γ1,bs,s1,e1,r1,hn,ds,p,qs,xss,k3,hb,hp,gh,hS,hk⟩:=Z;subst hb;have rl:=Gp r1;have ns:=gh.nest e1;show spN K n S (vs++[]) H1 _ E;rw[List.append_nil];refine⟨by rw[rl.length,<- hn,lM0],F1,ds,p,qs,xss,k3,rl,hp,ns,hS,fun yss ky H' qs' n' st'=>?_⟩;obtain⟨hy,q'⟩:=hk yss ky;have lq:qs'.length=qs.length:=by rw[n'.len,hy,<- ns.len]
 have gd:∀ {j:Nat} {s:Sl},(c9 Γ1 g (qs.length + 1))[j]?=some (some s)->Γ1[j]?=some (some s)/\¬ (g<=j/\j < g + (qs.length + 1)):=fun {j s} hj=>by
  by_cases a:g<=j/\j < g + (qs.length + 1)
  ·have jl:j < Γ1.length:=by
    have:=(gS0 hj).1;rw[p7] at this;exact this
   rw[tH a.1 a.2 jl] at hj;cases hj
  ·by_cases b:j < g
   ·rw[ku b] at hj;exact⟨hj,a⟩
   ·rw[tG (by omega)] at hj;exact⟨hj,a⟩
 have e2:En K B F1 σ H1 (c9 Γ1 g (qs.length + 1)):=e1.weak p7 (fun j s hj=>(gd hj).1) fun j d hj=>by
  by_cases a:g<=j/\j < g + (qs.length + 1)
  ·exfalso;by_cases b:j=g
   ·subst b;rw[gh.at0] at hj;cases hj
   ·have lk:j - (g + 1) < qs.length:=by omega
    have lx:j - (g + 1) < (bg xss).length:=by rw[gh.len];exact lk
    have:=gh.ats _ _ _ (gE0 lk) (gE0 lx);rw[show g + 1 + (j - (g + 1))=j by omega,hj] at this;cases this
  ·by_cases b:j < g
   ·exact ku b
   ·exact tG (by omega)
 have own:∀ z,z∈p::qs->F1 z=none/\B.H z=none/\∀ (j:Nat) (d:D),Hld (c9 Γ1 g (qs.length + 1)) j d->σ[j]?≠some (some (V.ref z)):=fun z hz=>by
  obtain⟨m,xs,l1,l2,hm⟩:=gh.slot hz;obtain⟨am,fm,_⟩:=e1.adr (.inl hm);refine⟨fm,e1.ow _ _ _ hm am,fun j d hj aj=>?_⟩;have hj':Hld Γ1 j d/\¬ (g<=j/\j < g + (qs.length + 1)):=by
   rcases hj with hj | hj
   ·exact⟨.inl (gd hj).1,(gd hj).2⟩
   ·exact⟨.inr (gd hj).1,(gd hj).2⟩
  have:=e1.dis j m _ _ z hj'.1 (.inl hm) aj am;subst this;exact hj'.2 ⟨l1,l2⟩
 have e3:En K B F1 σ H' (c9 Γ1 g (qs.length + 1)):=e2.heap (l:=p::qs) st'.keep st'.dom own;have e4:=e3.A8 (g:=g) (qs:=p::qs') (xss:=qs'.map .adr::bg yss) ⟨_,_,_,rfl,n'.top,oh,BH n'.len n'.row⟩ n'.nd (fun z hz=>by
  have new:z∈p::qs\/H1 z=none:=by
   rcases List.mem_cons.mp hz with e | m
   ·exact .inl (e ▸ .head _)
   ·exact st'.new z m
  rcases new with m | hz0
  ·exact own z m
  ·refine⟨?_,e1.dom z hz0,fun j d hj aj=>?_⟩
   ·cases q:F1 z with
    | none=>rfl
    | some o=>rw[e1.sub _ _ q] at hz0;cases hz0
   ·obtain⟨q,a,_,c⟩:=e2.hl j d hj;obtain⟨o,ho⟩:=c.some;rw[aj] at a;have:z=q:=by injection (Option.some.inj (Option.some.inj a))
    rw[this,ho] at hz0;cases hz0) fun m hm=>by
  have hm':m < qs.length + 1:=by rw[<- lq];exact hm
  have jl:g + m < Γ1.length:=by
   have:(p::qs)[m]?=some ((p::qs)[m]'hm'):=gE0 hm';by_cases b:m=0
   ·subst b;exact(gS0 gh.at0).1
   ·have lk:m - 1 < qs.length:=by omega
    have lx:m - 1 < (bg xss).length:=by rw[gh.len];exact lk
    have:=(gS0 (gh.ats _ _ _ (gE0 lk) (gE0 lx))).1;omega
  exact tH (by omega) (by omega) jl
 exact⟨_,yP hL,h2.rf B F1 _ H' _ DD D3 e4 (k.mono s1) (q' qs' n'.len)⟩⟩
theorem DI {S:List D->NR->(NR->Prop)->Prop} {Γ1 pre T:G} {L m:Nat} {u3:TS3} {D1:E3} {t:Tag (u3,D1)} {ds:List D} (k3:NR->Prop) (h:Γ1=pre++tlG (gh .ow p (qs.map .adr) qs (bg xss)++(nn m++T))) (hp:pre.length=L) (hi:i < L) (hn:pre[i]?=some (some (Sl.fz (.adr p)))) (hl:qs.length=xss.length)
  (hd:ds[1]?=some (.adr p)) (hS:S ds xss k3) (hk:∀ yss,k3 yss->yss.length=xss.length/\∀ qs':La0,qs'.length=yss.length->u3 D1 (pre++tlG (gh .ow p (qs'.map .adr) qs' (bg yss)++(nn m++T)))):Bp i L S (ds.map Bo.d) Γ1 u3 D1 t:=by
 have hr:qs.length=(bg xss).length:=by unfold bg;rw[lM0];exact hl
 subst h;refine⟨ds,p,qs,xss,k3,rfl,hd,u5.of hp hi hn hr,hS,fun yss ky=>?_⟩;obtain⟨a,b⟩:=hk yss ky;refine⟨a,fun qs' hq=>?_⟩;have hr':qs'.length=(bg yss).length:=by unfold bg;rw[lM0];exact hq
 have e1:c9 (pre++tlG (gh .ow p (qs.map .adr) qs (bg xss)++(nn m++T))) L (qs.length + 1)=pre++tlG (nn (qs.length + 1 + m)++T):=by
  have:=p8 (pre:=pre) (L:=L) (n:=qs.length + 1) (T:=gh .ow p (qs.map .adr) qs (bg xss)++(nn m++T)) (g:=0) hp;rw[Nat.add_zero] at this;unfold tlG;rw[this];have w:=tF (n:=qs.length + 1) (A:=[]) (Z:=gh .ow p (qs.map .adr) qs (bg xss)) (T:=nn m++T) (Fz hr);rw[List.nil_append,List.nil_append] at w;rw[show (([]:G).length)=0 from rfl] at w;rw[w,E7]
 rw[e1,yR hp hr' (by omega),show qs.length + 1 + m - (qs'.length + 1)=m by omega];exact b qs' hq
end
section
variable {K:Fg0} {X:Cx} {pos:Pos} {i j l:Nat} {y:Str} {px p2:Pos} {o k e:Expr} {to te:TE} {e3:TE3}
theorem HL (hx:P3B K X (.Name y px) (cH i) (bor i)) (hk:P3B K X k (cH j) (bor j)) (he:P3 K X e te e3)
  (ha:∀ v,assign (.Subscript (.Name y px) k p2) X.env v=(do
   let ov <- holding [v] (eval (.Name y px) X.env)
   let iv <- holding [v,ov] (eval k X.env)
   standAt p2
   holding [v,ov,iv] (setItem ov iv v)
   release [v,ov,iv] []):=by intro _;rfl)
  (hs:autoParam (swapsWithSole [.Subscript (.Name y px) k p2] e pos.line X.env=pure false) r0) (hw:autoParam (swappedStores [.Subscript (.Name y px) k p2] e X.env=pure none) r0)
  (h1:autoParam ((assignEach [.Subscript (.Name y px) k p2] X.env).map (·.2)=[assign (.Subscript (.Name y px) k p2) X.env]) r0) :
  N3S K X i (.Assign [.Subscript (.Name y px) k p2] e pos) (hU te (uw (cH i) (cH j) kL)) (r_ i j e3):=Dg (tT i hx hk he ha hs hw h1).pe he.rf
theorem HM {jy jx jn:Nat} (hi:i≠jy) (ho:P3 K X o to (nk ix3 (bor i) (bor jy))) (hk:P3B K X k (cH jx) (bor jx)) (he:P3 K X e (cH jn) e3)
  (ha:∀ v,assign (.Subscript o k p2) X.env v=(do
   let ov <- holding [v] (eval o X.env)
   let iv <- holding [v,ov] (eval k X.env)
   standAt p2
   holding [v,ov,iv] (setItem ov iv v)
   release [v,ov,iv] []):=by intro _;rfl)
  (hs:autoParam (swapsWithSole [.Subscript o k p2] e pos.line X.env=pure false) r0) (hw:autoParam (swappedStores [.Subscript o k p2] e X.env=pure none) r0)
  (h1:autoParam ((assignEach [.Subscript o k p2] X.env).map (·.2)=[assign (.Subscript o k p2) X.env]) r0) :
  N3S K X i (.Assign [.Subscript o k p2] e pos) (hU (cH jn) (uw to (cH jx) kL)) (BD jy jx jn):=Dh hi (G3 (bA ho) hk he ha hs hw h1).pe ho.rf
theorem Mw {x:Str} {pos':Pos} (hl:i≠l) (hN:X.N.Nodup) (hi:X.N[l]?=some x) (hx:Loc X.env.scope x) (he:P3 K X e te e3) (hs:autoParam (swapsWith e (some (.Name x pos')) pos.line X.env=pure false) r0) (hf:autoParam (X.fn x=true\/X.env.scope.names.lookup x=some .local) k0) :
  N3S K X i (.Assign [.Name x pos'] e pos) (hU te (i9 l)) (B4 i l e3):=HN hl (aN hN hi hx he hs hf).pe he.rf
variable {kk n:Nat} {f:Addr} {fd:FuncData} {ps:Ls0} {x:Str} {p:Pos} {es:List Expr} {t:TA} {t3:eA} {S:List D->NR->(NR->Prop)->Prop} {rest:List Stmt} {u:TS} {u3:TS3}
theorem zh (F:aG X.prog X.w X.K X.mg X.base CX0 kk f fd ps (spN K n S)) (hr:bN kk X.A) (hg:Gl X x) (hm:X.mg x=some (.ref f)) (hk:PySem.W.keepIn X.K (.ref f)=true) (hb:Binds X.K fd ps []) (ha:rY K X (e::es) t t3)
  (hs:autoParam (swapsWith (.Call (.Name x p) (e::es) [] p2) none pos.line X.env=pure false) r0) (hdb:autoParam ((x == ("__debug__":Str))=false) d0) (he:autoParam (starEach (e::es) X.env=(false,eval e X.env)::starEach es X.env) r0) (hpl:autoParam ((backTo p2 (starEach es X.env)).any (·.1)=false) r0) :
  N3S K X i (.Expr (.Call (.Name x p) (e::es) [] p2) pos) (sX (kr (spN K n S) [] E0 t)) (Gg i n S t3):=HP (e:=.Call (.Name x p) (e::es) [] p2) (xg (xk F hr hg hm hk hb .nil qE ha.pe hdb he hpl) hs) ha.rf
theorem Ep (L i g:Nat) (hL:L<=g) (P:DM X L) (F:aG X.prog X.w X.K X.mg X.base CX0 kk f fd ps (spN K n S)) (hr:bN kk X.A) (hg:Gl X x) (hm:X.mg x=some (.ref f)) (hk:PySem.W.keepIn X.K (.ref f)=true) (hb:Binds X.K fd ps []) (ha:rY K X (e::es) t t3) (h2:lR K X rest u u3)
  (hs:autoParam (swapsWith (.Call (.Name x p) (e::es) [] p2) none pos.line X.env=pure false) r0) (hdb:autoParam ((x == ("__debug__":Str))=false) d0) (he:autoParam (starEach (e::es) X.env=(false,eval e X.env)::starEach es X.env) r0) (hpl:autoParam ((backTo p2 (starEach es X.env)).any (·.1)=false) r0) :
  lR K X (.Expr (.Call (.Name x p) (e::es) [] p2) pos::rest) (CN (sX (kr (spN K n S) [] E0 t)) (tGh L u)) (Bq i g n S t3 u3):=Eo L i g hL P (xk F hr hg hm hk hb .nil qE ha.pe hdb he hpl) ha.rf h2 hs
theorem Fy {i g n:Nat} {D1:E3} {Γ:G}:Bq i g n S t3 u3 D1 Γ=(t3 Γ fun bs Γ1=>bs.length=n/\Bp i g S bs Γ1 u3 D1 ⟨⟩):=rfl
end
end L3
namespace L2
open PySem PySem.Spec PyProof.Rows
section
variable {prog:Program} {w:World} {A:Around} {E:VS} {s:Shared}
theorem GH {z TI TO i1 i2 p:Addr} {k:Nat} {xs:Str} {tk0:Tok} {ys:Array Value} {c:Nat} {y a b:Value} {Q:VS} (D:ZsD z TI TO i1 i2 p) (hz:IsZip s.heap z TI TO .none) (hTI:IsPair s.heap TI (.ref i1) (.ref i2)) (hTO:IsPair s.heap TO a b)
  (h1:s.heap.IsStrIter i1 "str_ascii_iterator" xs tk0 k) (h2:s.heap.IsListIter i2 p k) (hp:s.heap.IsList p ys) (hx:xs.cps[k]?=some c) (hy:ys[k]?=some y)
  (hQ:∀ h' u,IsZip h' z TI TO (rawInt s.heap.objs.size)->IsPair h' TO (.str ⟨#[c]⟩ u) y->h'.IsStrIter i1 "str_ascii_iterator" xs tk0 (k + 1)->h'.IsListIter i2 p (k + 1)->IsPair h' s.heap.objs.size (.str ⟨#[c]⟩ u) y->
   (∀ d o,d≠z->d≠TO->d≠i1->d≠i2->s.heap.get? d=some o->h'.get? d=some o)->Q (.ref s.heap.objs.size) { s with heap:=h',toks:=s.toks + 1 }) :
  wpAny (model prog w) A (Builtin.«zip.__next__» ⟨[.ref z],[]⟩) (fun fin s'=>∃ v,fin=.done (.ret v)/\Q v s') E s:=by
 show wpAny _ _ (field (.ref z) 2 >>= fun a=>_) _ _ _;refine wpAny_bind (wpAny_field hz rfl (x:=.bool false) rfl ?_);show wpAny _ _ (field (.ref z) 3 >>= fun a=>_) _ _ _;refine wpAny_bind (wpAny_field hz rfl (x:=.ref TI) rfl (wpAny_bind (wpAny_seqItems hTI rfl ?_)));show wpAny _ _ (Builtin.SmallTypes.ownedTupleIsFree (.ref z) >>= fun a=>_) _ _ _;refine wpAny_bind ?_;unfold Builtin.SmallTypes.ownedTupleIsFree;refine wpAny_bind (wpAny_field hz rfl (x:=.none) rfl (wpAny_pure ?_));simp only[if_true];refine wpAny_bind (wpAny_rule (wpAny_bind (wpAny_field hz rfl (x:=.ref TO) rfl ?_)));refine wpAny_bind (wpAny_setField_rec hz (by simp) fun g1 hz1 sb1=>?_);replace hz1:IsZip g1 z TI TO .ellipsis:=hz1;refine wpAny_bind ?_;simp only[List.zipIdx_cons,List.zipIdx_nil,List.forIn_cons,List.forIn_nil];refine wpAny_bind (wpAny_bind (wpAny_onRaise ?_));show wpAny _ _ (Builtin.SmallTypes.nextOf (.ref i1) >>= fun a=>_) _ _ _;refine wpAny_bind (wpAny_nextOf_ascii_item (h1.extBut sb1.extBut D.i1z) hx fun g2 h12 sb2=>wpAny_pure ?_);have hTO2:IsPair g2 TO a b:=sb2.extBut _ _ D.TOi1 (sb1.extBut _ _ D.TOz hTO);refine wpAny_bind (wpAny_seqItems hTO2 rfl (wpAny_bind (wpAny_updateSeq_pair hTO2 fun g3 hTO3 sb3=>?_)));replace hTO3:IsPair g3 TO (.str ⟨#[c]⟩ s.toks) b:=hTO3;refine wpAny_bind (wpAny_letGo (wpAny_pure (wpAny_bind (wpAny_bind (wpAny_onRaise ?_)))));show wpAny _ _ (Builtin.SmallTypes.nextOf (.ref i2) >>= fun a=>_) _ _ _;have h23:g3.IsListIter i2 p k:=h2.at fun o e=>sb3.extBut _ _ D.TOi2.symm (sb2.extBut _ _ D.i12.symm (sb1.extBut _ _ D.i2z e));have hp3:g3.IsList p ys:=((hp.extBut sb1.extBut D.pz).extBut sb2.extBut D.pi1).extBut sb3.extBut D.pTO;refine wpAny_bind (wpAny_nextOf_list_item h23 hp3 hy fun g4 h24 sb4=>wpAny_pure ?_);have hTO4:IsPair g4 TO (.str ⟨#[c]⟩ s.toks) b:=sb4.extBut _ _ D.TOi2 hTO3;refine wpAny_bind (wpAny_seqItems hTO4 rfl (wpAny_bind (wpAny_updateSeq_pair hTO4 fun g5 hTO5 sb5=>?_)));replace hTO5:IsPair g5 TO (.str ⟨#[c]⟩ s.toks) y:=hTO5;refine wpAny_bind (wpAny_letGo (wpAny_pure (wpAny_pure (wpAny_bind (wpAny_seqItems hTO5 rfl (wpAny_bind (wpAny_newTuple ?_)))))));have hsz:g5.objs.size=s.heap.objs.size:=by rw[sb5.1,sb4.1,sb3.1,sb2.1,sb1.1]
 have hz5:IsZip g5 z TI TO .ellipsis:=sb5.extBut _ _ D.TOz.symm (sb4.extBut _ _ D.i2z.symm (sb3.extBut _ _ D.TOz.symm (sb2.extBut _ _ D.i1z.symm hz1)));have hk5:∀ d o,d≠z->d≠TO->d≠i1->d≠i2->s.heap.get? d=some o->g5.get? d=some o:=fun d o c1 c2 c3 c4 e=>sb5.extBut _ _ c2 (sb4.extBut _ _ c4 (sb3.extBut _ _ c2 (sb2.extBut _ _ c3 (sb1.extBut _ _ c1 e))));have h15:g5.IsStrIter i1 "str_ascii_iterator" xs tk0 (k + 1):=((h12.extBut sb3.extBut D.TOi1.symm).extBut sb4.extBut D.i12).extBut sb5.extBut D.TOi1.symm;have h25:g5.IsListIter i2 p (k + 1):=h24.at fun o e=>sb5.extBut _ _ D.TOi2.symm e;have zlt:z < g5.objs.size:=Heap.lt_size hz5;show wpAny _ _ (Builtin.SmallTypes.ownedTupleHandOut (.ref z) (.ref g5.objs.size) >>= fun a=>_) _ _ _;refine wpAny_bind ?_;unfold Builtin.SmallTypes.ownedTupleHandOut;have hz6:IsZip (g5.push { cls:=.type "tuple",data:=.seq #[.str ⟨#[c]⟩ s.toks,y] }) z TI TO .ellipsis:=Heap.get?_push_of_some _ hz5;refine wpAny_bind (wpAny_setField_rec hz6 (by simp) fun g7 hz7 sb7=>?_);replace hz7:IsZip g7 z TI TO (rawInt g5.objs.size):=hz7;refine wpAny_setField_rec hz7 (by simp) fun g8 hz8 sb8=>?_;replace hz8:IsZip g8 z TI TO (rawInt g5.objs.size):=hz8;have up:∀ d o,d≠z->g5.get? d=some o->g8.get? d=some o:=fun d o c1 e=>sb8.extBut _ _ c1 (sb7.extBut _ _ c1 (Heap.get?_push_of_some _ e));have hT8:IsPair g8 g5.objs.size (.str ⟨#[c]⟩ s.toks) y:=sb8.extBut _ _ (Nat.ne_of_gt zlt) (sb7.extBut _ _ (Nat.ne_of_gt zlt) (Heap.get?_push_size _ rfl));rw[hsz] at hz8 hT8;refine wpAny_pure ⟨_,rfl,?_⟩;show Q (.ref g5.objs.size) _;rw[hsz];exact hQ g8 _ hz8 (up _ _ D.TOz hTO5) (let ⟨o,e,r⟩:=h15;⟨o,up _ o D.i1z e,r⟩) (h25.at fun o e=>up _ o D.i2z e) hT8 fun d o c1 c2 c3 c4 e=>up d o c1 (hk5 d o c1 c2 c3 c4 e)
end
noncomputable def Nu (K:Fg0) (x:Str) (p:Addr):It:=
 ⟨fun i H=>∃ ys y,SqL K H p ys/\i < x.cps.size/\ys[i]?=some y,
  fun i H v H'=>∃ t y c,H t=none/\(∀ ys,SqL K H p ys->ys[i]?=some y)/\x.cps[i]?=some c/\v=.ref t/\H'=upd H t (.tup [.str (sgn c),y]),
  fun i _=>x.cps.size<=i⟩
def NQ (z TI TO i1 i2:Addr) (x:Str) (tk:Tok) (p:Addr) (i:Nat) (h:Heap):Prop:=IsZip h z TI TO .none/\IsPair h TI (.ref i1) (.ref i2)/\(∃ a b,IsPair h TO a b)/\h.IsStrIter i1 "str_ascii_iterator" x tk i/\h.IsListIter i2 p i
theorem GP {P:Program} {w:World} {K:Fg0} {es:List Expr} {kt:Nat} {tp:Pos} (z TI TO i1 i2 p:Addr) (x:Str) (tk:Tok) (D:ZsD z TI TO i1 i2 p) :
  Turn P w K (.Tuple es kt tp) (Nu K x p) [z,TI,TO,i1,i2] z (NQ z TI TO i1 i2 x tk p) where
 mem:=by simp
 obj:=fun i h st b hb=>by
  obtain⟨hz,hTI,⟨a,c,hTO⟩,⟨o1,e1,_,d1⟩,⟨o2,e2,_,d2⟩⟩:=st;simp only[List.mem_cons,List.not_mem_nil,or_false] at hb;rcases hb with rfl | rfl | rfl | rfl | rfl
  ·exact⟨_,hz,fun v q=>by cases q⟩
  ·exact⟨_,hTI,fun v q=>by cases q⟩
  ·exact⟨_,hTO,fun v q=>by cases q⟩
  ·exact⟨_,e1,fun v q=>by rw[d1] at q;cases q⟩
  ·exact⟨_,e2,fun v q=>by rw[d2] at q;cases q⟩
 keep:=fun i h h' st k=>by
  obtain⟨hz,hTI,⟨a,c,hTO⟩,⟨o1,e1,r1⟩,h2⟩:=st;exact⟨k z (by simp) _ hz,k TI (by simp) _ hTI,⟨a,c,k TO (by simp) _ hTO⟩,⟨o1,k i1 (by simp) _ e1,r1⟩,h2.at fun o e=>k i2 (by simp) o e⟩
 item:=by
  intro X hP hw hK hc i pins s σ H E I hf st hg;subst hP hw hK;obtain⟨ys,y,hq,hx,hy⟩:=hg;obtain⟨hz,hTI,⟨a0,b0,hTO⟩,h1,h2⟩:=st;obtain⟨its,r,ht,hsz⟩:=I.list hq;obtain⟨v,hv,rv⟩:=r.get hy;have nf:∀ b∈[z,TI,TO,i1,i2],H b=none:=fun b hb=>(hf b hb).1;have hT:s.TypeIs (.ref z) "zip":=⟨_,hz,rfl⟩;unfold pyNext;refine wpAny_bind (wpAny_attempt (wpAny_callSpecial?_slot (name:=Str.ofString "__next__") hT F.slot_zip_next (wpAny_call_entry F.slot_zip_next hT F.entry_zip_next
   (GH D hz hTI hTO h1 h2 (show s.heap.IsList p its.toArray from let ⟨o,n,e,c,_,d⟩:=ht;⟨o,e,c,n,d⟩) (c:=x.cps[i]) (by simp [hx]) (y:=v) (by simpa using hv) fun h' u a1 a2 a3 a4 a5 hk=>wpAny_pure ?_) (F.args_zip_next_1 _))))
  refine⟨_,rfl,wpAny_letOwnedTupleGo_zip a1 fun h2' hz' hs'=>?_⟩;have zT:s.heap.objs.size≠z:=Nat.ne_of_gt (Heap.lt_size hz);refine⟨.ref s.heap.objs.size,upd H s.heap.objs.size (.tup [.str (sgn x.cps[i]),y]),?_,rfl,⟨_,y,x.cps[i],I.hok.fresh (Nat.le_refl _),fun zs hzs=>by rw[I.zr hzs hq];exact hy,by simp [hx],rfl,rfl⟩,?_,fun b hb'=>?_⟩
  ·refine I.so (t':=s.toks + 1) (ch:=[z,TO,i1,i2]) (u:=.str (sgn x.cps[i]) u) (v:=v) (fun b hb'=>hf b (by simp at hb' ⊢;rcases hb' with e | e | e | e <;> simp [e])) (Nat.le_refl _) (fun b o hb' e=>?_) ⟨_,hs'.extBut _ _ zT a5,rfl,_,rfl⟩ ⟨_,rfl⟩ rv;simp only[List.mem_cons,List.not_mem_nil,or_false,not_or] at hb';exact hs'.extBut b o hb'.1 (hk b o hb'.1 hb'.2.1 hb'.2.2.1 hb'.2.2.2 e)
  ·exact⟨hz',hs'.extBut _ _ D.TIz (hk _ _ D.TIz D.TITO D.TIi1 D.TIi2 hTI),⟨_,_,hs'.extBut _ _ D.TOz a2⟩,a3.extBut hs'.extBut D.i1z,a4.at fun o e=>hs'.extBut _ _ D.i2z e⟩
  ·rw[ah]
   ·exact nf b hb'
   ·have hlt:∃ o,s.heap.get? b=some o:=by
     obtain⟨o1,e1,_⟩:=h1;obtain⟨o2,e2,_⟩:=h2;simp only[List.mem_cons,List.not_mem_nil,or_false] at hb';rcases hb' with rfl | rfl | rfl | rfl | rfl
     ·exact⟨_,hz⟩
     ·exact⟨_,hTI⟩
     ·exact⟨_,hTO⟩
     ·exact⟨_,e1⟩
     ·exact⟨_,e2⟩
    obtain⟨o,e⟩:=hlt;exact Nat.ne_of_lt (Heap.lt_size e)
 done:=by
  intro X hP hw hK hc i pins s σ H E I hf st hg;subst hP hw hK;obtain⟨hz,hTI,⟨a0,b0,hTO⟩,h1,h2⟩:=st;have hg':x.cps.size<=i:=hg;have hT:s.TypeIs (.ref z) "zip":=⟨_,hz,rfl⟩;unfold pyNext;refine wpAny_bind (wpAny_attempt (wpAny_callSpecial?_slot (name:=Str.ofString "__next__") hT F.slot_zip_next (wpAny_call_entry F.slot_zip_next hT F.entry_zip_next
   (JR (I.ok.hd hc) D hz hTI hTO h1 (by simpa using hg') fun h' e hk he=>?_) (F.args_zip_next_1 _))))
  obtain⟨o,ho,hcl⟩:=he;refine wpAny_bind (wpAny_isInstance (T:="StopIteration") (b:=true) ⟨o,ho,hcl⟩ isSubtype_stop ?_);refine wpAny_pure ⟨rfl,I.moved (t':=s.toks) (ch:=[z,TO,i1,i2]) (fun b hb'=>hf b (by simp at hb' ⊢;rcases hb' with e | e | e | e <;> simp [e])) fun b o hb' e=>?_⟩;simp only[List.mem_cons,List.not_mem_nil,or_false,not_or] at hb';exact hk b o hb'.1 hb'.2.1 hb'.2.2.1 hb'.2.2.2 e
 self:=fun _ _ _ _ _ st h=>wpAny_pyIter_zip st.1 h
noncomputable abbrev zl2 (h:Heap) (x:Str) (t:Tok) (p:Addr):Heap:=(zs1 h x t).push { cls:=.type "list_iterator",data:=.fields #[.ref p,.int 0 0] }
noncomputable abbrev zl3 (h:Heap) (x:Str) (t:Tok) (p:Addr):Heap:=(zl2 h x t p).push { cls:=.type "tuple",data:=.seq #[.ref h.objs.size,.ref (zs1 h x t).objs.size] }
noncomputable abbrev zl4 (h:Heap) (x:Str) (t:Tok) (p:Addr):Heap:=(zl3 h x t p).push { cls:=.type "tuple",data:=.seq #[.none,.none] }
noncomputable abbrev zl5 (h:Heap) (x:Str) (t:Tok) (p:Addr):Heap:=(zl4 h x t p).push { cls:=.type "zip",data:=.fields #[.none,.bool false,.bool false,.ref (zl2 h x t p).objs.size,.ref (zl3 h x t p).objs.size] }
set_option maxHeartbeats 4000000 in
theorem Fb (x:Str) (t:Tok) (p:Addr) (ys:Array Value) (ha:x.cps.all (· < 128)=true) :
  Meets (Builtin.«zip.__new__» ⟨[.type "zip",.str x t,.ref p],[]⟩) (fun _ R s=>s.heap.IsList p ys/\R (.ok (.ret (.ref (zl4 s.heap x t p).objs.size))) { s with heap:=zl5 s.heap x t p }):=
 .of_wp fun prog w A R s h=>by
  obtain⟨hp,g,d,tk,os⟩:=s;obtain⟨hl,h⟩:=h;have hsub:=sub_zip;have hL:Heap.IsList (Shared.heap ⟨hp.push { cls:=.type "str_ascii_iterator",data:=.fields #[.str x t,.int 0 0] },g,d,tk,os⟩) p ys:=let ⟨o,e,r⟩:=hl;⟨o,Heap.get?_push_of_some _ e,r⟩
  wp_walk using wpAny_pyIter_ascii ha,wpAny_pyIter_list hL
  exact⟨_,rfl,h⟩
section
variable {prog:Program} {w:World} {A:Around} {E:VS} {s:Shared}
theorem Il {x:Str} {t:Tok} {p:Addr} {ys:Array Value} {Q:VS} (ha:x.cps.all (· < 128)=true) (hp:s.heap.IsList p ys)
  (h:∀ h',IsZip h' (s.heap.objs.size + 4) (s.heap.objs.size + 2) (s.heap.objs.size + 3) .none->IsPair h' (s.heap.objs.size + 2) (.ref s.heap.objs.size) (.ref (s.heap.objs.size + 1))->IsPair h' (s.heap.objs.size + 3) .none .none->
   h'.IsStrIter s.heap.objs.size "str_ascii_iterator" x t 0->h'.IsListIter (s.heap.objs.size + 1) p 0->(∀ c o,s.heap.get? c=some o->h'.get? c=some o)->Q (.ref (s.heap.objs.size + 4)) { s with heap:=h' }) :
  wpAny (model prog w) A (call (.type "zip") [.str x t,.ref p]) Q E s:=by
 refine callType_new F.called_zip (by decide) (F.typeCall_zip_2 _ _) (F.newCall_zip_2 _ _) (fun obj=>F.args_object_init_3 obj _ _) F.entry_zip_new (Fb x t p ys ha) ⟨hp,?_⟩;have z1:(zs1 s.heap x t).objs.size=s.heap.objs.size + 1:=Heap.size_push ..;have z2:(zl2 s.heap x t p).objs.size=s.heap.objs.size + 2:=by rw[Heap.size_push,z1]
 have z3:(zl3 s.heap x t p).objs.size=s.heap.objs.size + 3:=by rw[Heap.size_push,z2]
 have z4:(zl4 s.heap x t p).objs.size=s.heap.objs.size + 4:=by rw[Heap.size_push,z3]
 have k5:(zl5 s.heap x t p).get? (zl4 s.heap x t p).objs.size=some _:=Heap.get?_push_size _ rfl;have k4:(zl5 s.heap x t p).get? (zl3 s.heap x t p).objs.size=some _:=Heap.get?_push_of_some _ (Heap.get?_push_size _ rfl);have k3:(zl5 s.heap x t p).get? (zl2 s.heap x t p).objs.size=some _:=Heap.get?_push_of_some _ (Heap.get?_push_of_some _ (Heap.get?_push_size _ rfl));have k2:(zl5 s.heap x t p).get? (zs1 s.heap x t).objs.size=some _:=Heap.get?_push_of_some _ (Heap.get?_push_of_some _ (Heap.get?_push_of_some _ (Heap.get?_push_size _ rfl)));have k1:(zl5 s.heap x t p).get? s.heap.objs.size=some _:=Heap.get?_push_of_some _ (Heap.get?_push_of_some _ (Heap.get?_push_of_some _ (Heap.get?_push_of_some _ (Heap.get?_push_size _ rfl))));show _/\_;rw[z2,z3,z4] at k5;rw[z1,z2] at k3;rw[z3] at k4;rw[z1] at k2;rw[z4];exact⟨⟨_,k5,rfl⟩,h _ k5 k3 k4 ⟨_,k1,rfl,rfl⟩ ⟨_,k2,rfl,rfl⟩ fun c o q=>Heap.get?_push_of_some _ (Heap.get?_push_of_some _ (Heap.get?_push_of_some _ (Heap.get?_push_of_some _ (Heap.get?_push_of_some _ q))))⟩
end
section
variable {X:Cx}
def iZl (K:Fg0) (ta:TA):TI:=fun σ H R=>ta σ H fun vs H1=>∃ (x:Str) (q:Addr) (ys:List V),vs=[.str x,.ref q]/\x.cps.all (· < 128)=true/\SqL K H1 q ys/\R (Nu K x q) H1
theorem Mb {a b:Expr} {ta:TA} {es:List Expr} {kt:Nat} {tp p pos:Pos} (hg:Gl X "zip") (hm:X.mg "zip"=none) (ha:PA X [a,b] ta) (hs:autoParam (starEach [a,b] X.env=[(false,eval a X.env),(false,eval b X.env)]) r0) (hs2:autoParam (starEach [b] X.env=[(false,eval b X.env)]) r0) :
  PI X (.Tuple es kt tp) (.Call (.Name "zip" p) [a,b] [] pos) (iZl X.K ta):=by
 intro pins s σ H R I h;refine Call_ (jL I hg hm (by decide +kernel:bootBuiltins "zip"=some (.type "zip")) (PyProof.Rows.callWith_type1 (thn (ha pos pins s σ H _ I h) fun us s1 ⟨vs,H1,I1,r1,q1⟩=>?_) (by rw[hs,hs2]) (by rw[hs2];rfl)));obtain⟨x,l2,ys,e,has,h2,q⟩:=q1;subst e;obtain⟨u,w',rfl,ru,rw'⟩:=vals2 r1;obtain⟨t,rfl⟩:=ru;cases rw';obtain⟨its,rt,ht,hz⟩:=I1.list h2;have htt:s1.heap.IsList l2 its.toArray:=let ⟨o,n,e,c,_,d⟩:=ht;⟨o,e,c,n,d⟩
 refine Il has htt fun h' hz hTI hTO hi1 hi2 hk=>wpAny_pyIter_zip hz ?_;have I2:Inv X pins σ H1 { s1 with heap:=h' }:=I1.kept (t':=s1.toks) hk;have lt:∀ i j:Nat,i < j->s1.heap.objs.size + i≠s1.heap.objs.size + j:=fun i j h e=>by omega
 have ltp:l2 < s1.heap.objs.size:=by obtain⟨_,e,_⟩:=htt;exact Heap.lt_size e
 have D:ZsD (s1.heap.objs.size + 4) (s1.heap.objs.size + 2) (s1.heap.objs.size + 3) s1.heap.objs.size (s1.heap.objs.size + 1) l2:=
  ⟨⟨lt 2 4 (by decide),lt 3 4 (by decide),lt 0 4 (by decide),lt 1 4 (by decide),lt 2 3 (by decide),(lt 0 2 (by decide)).symm,(lt 1 2 (by decide)).symm,(lt 0 3 (by decide)).symm,(lt 1 3 (by decide)).symm,lt 0 1 (by decide)⟩,Nat.ne_of_lt (Nat.lt_of_lt_of_le ltp (Nat.le_add_right _ _)),Nat.ne_of_lt (Nat.lt_of_lt_of_le ltp (Nat.le_add_right _ _)),Nat.ne_of_lt ltp,Nat.ne_of_lt (Nat.lt_of_lt_of_le ltp (Nat.le_add_right _ _))⟩
 refine⟨_,_,_,_,H1,rfl,I2,GP _ _ _ _ _ l2 x t D,⟨hz,hTI,⟨_,_,hTO⟩,hi1,hi2⟩,fun b hb=>?_,q⟩;have hge:s1.heap.objs.size<=b:=by
  simp only[List.mem_cons,List.not_mem_nil,or_false] at hb;rcases hb with rfl | rfl | rfl | rfl | rfl <;> omega
 exact I1.qu hge (I1.hok.fresh hge)
end
end L2
namespace L3
open PySem L2
section
variable {K:Fg0} {B:Bs} {F:Hp} {σ:L2.St} {H:Hp} {Γ:G} {X:Cx}
def MN (t3:TA3) (Γ:G) (Q:List D->G->Prop):Prop:=t3 Γ fun ds Γ1=>∃ z ys,ds=[.str z,.lst ys]/\asc z=true/\z.cps.size<=ys.length/\Q (g_ (signs z) ys) Γ1
theorem MR {a b:Expr} {ta:TA} {a3:TA3} {es:List Expr} {kt:Nat} {tp p pos:Pos} (hK:X.K=K) (hg:Gl X "zip") (hm:X.mg "zip"=none) (ha:P3A K X [a,b] ta a3) (hs:autoParam (starEach [a,b] X.env=[(false,eval a X.env),(false,eval b X.env)]) r0) (hs2:autoParam (starEach [b] X.env=[(false,eval b X.env)]) r0) :
  P3I K X (.Tuple es kt tp) (.Call (.Name "zip" p) [a,b] [] pos) (iZl K ta) (MN a3):=⟨by subst hK;exact Mb hg hm ha.pe hs hs2,fun B F σ H Γ Q R e q k=>
 ha.rf B F σ H Γ _ _ e q fun vs H' Z=>by
  obtain⟨F',Γ',ds,s,e',rv,z,ys,h1,has,hle,q'⟩:=Z;subst h1;obtain⟨v,ws,rfl,r1,w,ws',rfl,⟨p2,vs2,rfl,g2,r2⟩,r3⟩:=rv;cases r3;cases r1;have sq:∀ {H'':Hp},aB F' H''->SqL K H'' p2 vs2:=fun sm=>.inl (.inl (sm _ _ g2));have zl:(g_ (signs z) ys).length=z.cps.size:=by rw[sR,lX];omega
  refine⟨z,p2,vs2,rfl,has,sq e'.sub,k _ H' F' Γ' _ s e' ⟨fun i H'' sm lt=>?_,fun i H'' sm ei=>?_,fun i H'' x H3 d sm hd y=>?_⟩ q'⟩
  ·rw[zl] at lt;obtain⟨x,y,hx,hy,_⟩:=gv (gE0 (show i < (g_ (signs z) ys).length by rw[zl];exact lt));obtain⟨w,hw,_⟩:=r2.get hy;exact⟨vs2,w,sq sm,lt,hw⟩
  ·rw[zl] at ei;exact Nat.le_of_eq ei.symm
  ·obtain⟨t,y1,c,ht,a2,b1,rfl,rfl⟩:=y;obtain⟨dx,dy,hx,hy,rfl⟩:=gv hd;obtain⟨w,hw,rw'⟩:=r2.get hy;have b2:=a2 vs2 (sq sm);rw[b2] at hw;cases hw;unfold signs at hx;rw[List.getElem?_map,Array.getElem?_toList,b1] at hx;cases hx;exact .inr ⟨t,_,[D.str (sgn c),dy],ht,rfl,rfl,⟨_,_,rfl,(rfl:V.str (sgn c)=V.str (sgn c)),_,_,rfl,rw',rfl⟩,rfl⟩⟩
end
end L3
namespace L2
open PySem
structure FN (K:Fg0) (x q:Str) (st:Stmt) (f:Addr) (d:FuncData):Prop where
 n:PySem.W.nsIn K mainGlobals x=some (some (.ref f))
 F:Fun K x q st f d
structure FM (K:Fg0) (C:Addr) (x q:Str) (st:Stmt) (f:Addr) (d:FuncData):Prop where
 m:PySem.W.findIn K (.ref C) x=some (some (.ref f))
 i:PySem.W.isFn K (.ref f)=true
 F:Fun K x q st f d
structure FY (K:Fg0) (x q:Str) (st:Stmt) (f:Addr) (d:FuncData) (ps:Ls0):Prop where
 F:Fun K x q st f d
 b:Binds K d ps []
structure FX (K:Fg0) (mg:SV) (x q:Str) (st:Stmt) (f:Addr) (d:FuncData) (ps:Ls0):Prop where
 F:Fun K x q st f d
 b:Binds K d ps []
 m:mg x=some (.ref f)
section
variable {K:Fg0} {mg:SV} {h:Heap} {C:Addr} {x q:Str} {st:Stmt} {f:Addr} {d:FuncData} {ps:Ls0}
theorem fx (X:K.In h) (G:h.Ns mainGlobals mg) (F:FN K x q st f d) (b:∀ (kV doc pm:Value) (an:Option Addr) (cdv ct:Value) (us:Lv0),us.length=ps.length->bindArgs (PySem.W.fnOf x q (gi st) (c7 st) (ae st) .none kV doc pm an cdv ct) ⟨us,[]⟩=pure (ps.zip us)):FX K mg x q st f d ps:=⟨F.F,F.F.binds b,PySem.W.mg_of X G F.n⟩
theorem fy (F:FM K C x q st f d) (b:∀ (kV doc pm:Value) (an:Option Addr) (cdv ct:Value) (us:Lv0),us.length=ps.length->bindArgs (PySem.W.fnOf x q (gi st) (c7 st) (ae st) .none kV doc pm an cdv ct) ⟨us,[]⟩=pure (ps.zip us)):FY K x q st f d ps:=⟨F.F,F.F.binds b⟩
theorem bN.dn {j k:Nat} {A:Around} (r:bN k A) (h:autoParam (j<=k) d0):bN j A:=r.mono h
theorem FM.me (F:FM K C x q st f d):Meth K C x f:=⟨F.m,F.i,F.F.kp⟩
end
end L2
set_option maxHeartbeats 4000000
namespace K23
open PySem L2 L3
noncomputable def fw (b:Option D):Option Sl:=b.map Sl.ow
theorem x6 {s:Option D} {Γ:G}:bI (fw s::Γ) 0=True:=by cases s <;> rfl
theorem Gw {n:Option D}:ka n none=none:=rfl
theorem Io {n:Option D} {d:D}:ka n (some (.fz d))=some (.fz d):=rfl
theorem Ip {n:Option D} {d:D}:ka n (some (.ow d))=some (.ow (n.getD d)):=rfl
theorem Gx {n:Option D} {d:D}:ka n (some (.ln d))=some (.ln (n.getD d)):=rfl
theorem Ir {n:Option D} {s:Option D}:ka n (fo s)=fo s:=by cases s <;> rfl
theorem Iq {n:Option D} {s:Option D}:ka n (fw s)=fw (s.map fun d=>n.getD d):=by cases s <;> rfl
set_option bootstrap.genMatcherCode true in
def mkL(s:String):Lean.MacroM (Array (Lean.TSyntax [`Lean.Parser.Tactic.simpStar,`Lean.Parser.Tactic.simpErase,`Lean.Parser.Tactic.simpLemma])):=do
 let mut xs:=#[]
 for w in s.splitOn " " do
  let n:=(w.dropWhile (·=='↓')).toString.toName
  let i:=match (<-Lean.Macro.resolveGlobalName n) with
   |(c,[])::_=>Lean.mkCIdent c
   |_=>Lean.mkIdent n
  let t<-if w.startsWith "↓" then `(Lean.Parser.Tactic.simpLemma|↓$i:ident) else `(Lean.Parser.Tactic.simpLemma|$i:ident)
  xs:=xs.push ⟨t.raw⟩
 return xs
def cLL:="dd List.length_cons List.length_nil Nat.reduceAdd Nat.reduceSub Nat.zero_add List.replicate List.cons_append List.nil_append List.append_nil ↓zD ↓uq ↓zC ↓zE ↓xV ↓zH ↓Gz ↓GA ↓Gu ↓Gv EN ↓xR ↓p5 ↓wQ jt ↓v_ ↓wa ↓pI ↓oU ↓uo ↓zz ↓Ic ↓Ib ↓ur ↓zF ↓h_c s_ Am ↓zB ↓Ci ↓Ia ↓Ce wJ EY ↓zG ↓zA Gat Bo.at ats RV.d RV.sl Aa i2 i2' zW ↓zu ↓B6 l9 oN sA sC A2 A1 mx3 IG A7 Df uy x8 x4 x5 uz sl3 D5 ↓xU ↓xQ vY kW p3 is3 knD dB dI dL dT ↓Cg qG beq_self_eq_true i28 vM we List.zip_cons_cons List.lookup_cons List.lookup_nil ↓se oE mS ↓xH sN ↓Cc sv dS CP RV.fz.injEq ↓sd c_ putD tgN tgT gives frees iL3 iR1 iZ3 iE3 lz3 DJ ↓pG ↓sP ↓pE ↓x_ List.isEmpty_nil List.isEmpty_cons ↓xW ↓sL yf yg ↓Cf ↓xB dG qz fV bQ bW List.map_cons List.map_nil Option.bind_some Option.bind_none List.nodup_nil List.nodup_cons List.getElem?_cons_zero List.getElem?_cons_succ List.getElem?_nil List.set_cons_zero List.set_cons_succ exists_eq_left' exists_eq_left exists_eq' exists_eq exists_and_left exists_and_right Option.some.injEq D.int.injEq D.lst.injEq D.str.injEq D.tup.injEq D.bl.injEq D.ins.injEq D.ty.injEq List.cons.injEq and_true true_and and_false false_and true_or false_or or_false or_true and_assoc List.not_mem_nil not_false_eq_true jR wA Gs zQ Co zO Cp lI Bool.false_xor Bool.not_true Bool.not_false Bool.true_xor iQ List.mapIdx_cons List.mapIdx_nil sQ mf jQ pU sD oP oO Nat.reduceLT decide_true pR pS pT ite_self newD Option.getD_some Option.getD_none CD CC CB CA xN xM xK if_pos if_true if_false List.all_cons List.all_nil Option.isNone_none Bool.and_true Bool.true_and decide_eq_true_eq not_true not_false_iff reduceCtorEq eq_self Bool.false_eq_true reduceIte Int.reduceEq Gw Io Ip Gx Ir Iq x6 DR yK frL y6 iT3 Nat.reduceEqDiff Cb Dv Ds ↓fz3 ↓Fp D.exc.injEq D.adr.injEq qd xb wN ↓sO ↓sJ ↓xT yJ w_ GN ↓xX ↓xS ↓H_"
def cJJ:=" ↓Jq sEb sEr sEp M6 ↓Jr ↓Js Mv Mt Mr Mu Mq Ms Jf Jg Jh Ji Jj Jk"
set_option bootstrap.genMatcherCode true in
local macro_rules | `(tactic| walk_at $s:str)=>do
 let l<-match s.getString with | "n5"=>pure cLL | "n7"=>pure (cLL++cJJ) | "n8"=>pure (cLL.replace " ↓Fp " " "++cJJ++" Mz MA MB S_0 S_r S_p JO V_0 V_r V_p JN Nl") | "n9"=>pure (cLL++" MN ↓Fy") | _=>Lean.Macro.throwUnsupported
 `(tactic| try simp -dsimp only [$(<-mkL l),*])
noncomputable def top (i:Nat):Stmt:=PySem.Challenge.pw_halvedpictures_k23_halved_step_by_step.main.body.getD i (.Pass ⟨0,0,0,0⟩)
noncomputable abbrev ny:Stmt:=top 16
noncomputable abbrev kA:Stmt:=top 17
noncomputable abbrev n9:Stmt:=top 18
noncomputable abbrev qc:Stmt:=top 19
noncomputable abbrev dY:Stmt:=top 20
noncomputable abbrev gD:Stmt:=top 22
noncomputable abbrev c6:Stmt:=inClass (top 23) 0
noncomputable abbrev gJ:Stmt:=inClass (top 23) 1
noncomputable abbrev iL:Stmt:=inClass (top 23) 2
noncomputable abbrev gc:Stmt:=inClass (top 23) 3
noncomputable abbrev d_:Stmt:=inClass (top 23) 5
noncomputable abbrev eM:Stmt:=inClass (top 23) 6
noncomputable abbrev nC:Stmt:=inClass (top 23) 7
noncomputable abbrev qa:Stmt:=top 26
noncomputable abbrev iF:Stmt:=top 27
noncomputable abbrev jA:Stmt:=top 28
noncomputable abbrev gC:Stmt:=top 29
noncomputable abbrev fE:Stmt:=top 30
noncomputable abbrev nv:Stmt:=top 32
noncomputable abbrev lZ:Stmt:=top 33
noncomputable abbrev kI:Stmt:=inClass (top 34) 0
noncomputable abbrev iH:Stmt:=inClass (top 34) 1
noncomputable abbrev iG:Stmt:=inClass (top 34) 3
noncomputable abbrev dZ:Stmt:=inClass (top 34) 5
noncomputable abbrev dv:Stmt:=inClass (top 34) 7
noncomputable abbrev dz:Stmt:=inClass (top 34) 8
noncomputable abbrev iK:Stmt:=inClass (top 35) 0
noncomputable abbrev cL:Stmt:=inClass (top 35) 1
noncomputable abbrev cM:Stmt:=inClass (top 35) 2
noncomputable abbrev Av:Stmt:=top 37
noncomputable abbrev lY:Stmt:=top 38
noncomputable abbrev sf:Stmt:=top 39
noncomputable abbrev sg:Stmt:=top 40
noncomputable abbrev gI:Stmt:=inClass (top 41) 0
noncomputable abbrev cj:Stmt:=inClass (top 41) 1
noncomputable abbrev gH:Stmt:=inClass (top 42) 0
noncomputable abbrev c5:Stmt:=inClass (top 42) 1
noncomputable abbrev kD:Stmt:=top 43
noncomputable abbrev qb:Stmt:=top 44
noncomputable abbrev kC:Stmt:=top 48
noncomputable abbrev jz:Stmt:=top 49
noncomputable abbrev fF:Stmt:=inClass (top 51) 0
noncomputable abbrev iI:Stmt:=inClass (top 51) 1
noncomputable abbrev jD:Stmt:=inClass (top 51) 2
noncomputable abbrev kJ:Stmt:=inClass (top 51) 3
noncomputable abbrev nB:Stmt:=inClass (top 51) 4
noncomputable abbrev jE:Stmt:=inClass (top 51) 5
noncomputable abbrev iJ:Stmt:=inClass (top 51) 6
noncomputable abbrev n8:Stmt:=top 53
noncomputable abbrev kB:Stmt:=top 54
noncomputable abbrev gb:Stmt:=top 55
noncomputable abbrev jw:Stmt:=top 56
noncomputable abbrev iE:Stmt:=top 57
noncomputable abbrev cK:Stmt:=top 58
noncomputable abbrev kH:Stmt:=top 60
noncomputable abbrev nA:Stmt:=top 61
noncomputable abbrev kE:Stmt:=top 62
noncomputable abbrev kF:Stmt:=top 63
noncomputable abbrev nz:Stmt:=top 64
noncomputable abbrev gF:Stmt:=top 65
noncomputable abbrev jB:Stmt:=top 66
noncomputable abbrev dH:Stmt:=top 67
noncomputable abbrev gE:Stmt:=top 68
noncomputable abbrev jC:Stmt:=top 69
noncomputable abbrev bY:Stmt:=top 70
noncomputable abbrev eL:Stmt:=top 71
noncomputable abbrev cc:Stmt:=top 72
noncomputable abbrev kG:Stmt:=top 73
noncomputable abbrev vK:Stmt:=top 74
theorem yT:aq ["thing","low","high"] ["thing","low","high"] (ae ny):=⟨rfl,rfl,rfl,by decide +kernel,rfl,by decide +kernel,by decide +kernel⟩
theorem wX:aq ["thing"] ["thing"] (ae kA):=⟨rfl,rfl,rfl,by decide +kernel,rfl,by decide +kernel,by decide +kernel⟩
theorem CT:aq ["thing","least"] ["thing","least"] (ae n9):=⟨rfl,rfl,rfl,by decide +kernel,rfl,by decide +kernel,by decide +kernel⟩
noncomputable def rW:Scope:={ kind:=.function,names:=[(".0",.local),("number",.local),("is_number",.globalImplicit)],isGenerator:=false,isCoroutine:=false,more:=[] }
theorem pO:Blk ["thing","least"] (ae n9) rW ["number"] [none]:=⟨rfl,by decide +kernel,by decide +kernel,by decide +kernel,by decide +kernel,rfl,by decide +kernel⟩
theorem Ar:aq ["height","width"] ["height","width"] (ae qc):=⟨rfl,rfl,rfl,by decide +kernel,rfl,by decide +kernel,by decide +kernel⟩
theorem nu:aq ["thing","height","width"] ["thing","height","width"] (ae dY):=⟨rfl,rfl,rfl,by decide +kernel,rfl,by decide +kernel,by decide +kernel⟩
theorem qC:aq ["thing","width"] ["thing"] (ae gD):=⟨rfl,rfl,rfl,by decide +kernel,rfl,by decide +kernel,by decide +kernel⟩
noncomputable def pQ:Scope:={ kind:=.function,names:=[(".0",.local),("row",.local),("len",.globalImplicit),("width",.free)],isGenerator:=false,isCoroutine:=false,more:=[] }
theorem lO:Blk ["thing","width"] (ae gD) pQ ["row","width"] [none,some 1]:=⟨rfl,by decide +kernel,by decide +kernel,by decide +kernel,by decide +kernel,rfl,by decide +kernel⟩
noncomputable def pP:Scope:={ kind:=.function,names:=[(".0",.local),("row",.local),("is_row",.globalImplicit)],isGenerator:=false,isCoroutine:=false,more:=[] }
theorem lN:Blk ["thing","width"] (ae gD) pP ["row"] [none]:=⟨rfl,by decide +kernel,by decide +kernel,by decide +kernel,by decide +kernel,rfl,by decide +kernel⟩
theorem n6:aq ["self","rows"] ["self","rows"] (ae c6):=⟨rfl,rfl,rfl,by decide +kernel,rfl,by decide +kernel,by decide +kernel⟩
noncomputable def jj:Scope:={ kind:=.function,names:=[(".0",.local),("row",.local),("tuple",.globalImplicit)],isGenerator:=false,isCoroutine:=false,more:=[] }
theorem fA:Blk ["self","rows"] (ae c6) jj ["row"] [none]:=⟨rfl,by decide +kernel,by decide +kernel,by decide +kernel,by decide +kernel,rfl,by decide +kernel⟩
theorem rE:aq ["self"] ["self"] (ae gJ):=⟨rfl,rfl,rfl,by decide +kernel,rfl,by decide +kernel,by decide +kernel⟩
theorem tR:aq ["self"] ["self"] (ae iL):=⟨rfl,rfl,rfl,by decide +kernel,rfl,by decide +kernel,by decide +kernel⟩
theorem ve:aq ["self"] ["self"] (ae gc):=⟨rfl,rfl,rfl,by decide +kernel,rfl,by decide +kernel,by decide +kernel⟩
noncomputable def mB:Scope:={ kind:=.function,names:=[(".0",.local),("row",.local),("list",.globalImplicit)],isGenerator:=false,isCoroutine:=false,more:=[] }
theorem ji:Blk ["self"] (ae gc) mB ["row"] [none]:=⟨rfl,by decide +kernel,by decide +kernel,by decide +kernel,by decide +kernel,rfl,by decide +kernel⟩
theorem rC:aq ["self"] ["self"] (ae d_):=⟨rfl,rfl,rfl,by decide +kernel,rfl,by decide +kernel,by decide +kernel⟩
noncomputable def ki:Scope:={ kind:=.function,names:=[(".0",.local),("y",.local),("x",.local),("range",.globalImplicit),("self",.free)],isGenerator:=false,isCoroutine:=false,more:=[] }
theorem dF:Blk ["self"] (ae d_) ki ["y","x","self"] [none,none,some 0]:=⟨rfl,by decide +kernel,by decide +kernel,by decide +kernel,by decide +kernel,rfl,by decide +kernel⟩
theorem n4:aq ["self","thing"] ["self","thing"] (ae eM):=⟨rfl,rfl,rfl,by decide +kernel,rfl,by decide +kernel,by decide +kernel⟩
theorem kz:aq ["self","place","y","x"] ["self","place"] (ae nC):=⟨rfl,rfl,rfl,by decide +kernel,rfl,by decide +kernel,by decide +kernel⟩
theorem Aq:aq ["thing"] ["thing"] (ae qa):=⟨rfl,rfl,rfl,by decide +kernel,rfl,by decide +kernel,by decide +kernel⟩
theorem tL:aq ["thing"] ["thing"] (ae iF):=⟨rfl,rfl,rfl,by decide +kernel,rfl,by decide +kernel,by decide +kernel⟩
theorem va:aq ["plan","thing"] ["plan","thing"] (ae jA):=⟨rfl,rfl,rfl,by decide +kernel,rfl,by decide +kernel,by decide +kernel⟩
theorem jT:aq ["field","low","high","place"] ["field","low","high"] (ae gC):=⟨rfl,rfl,rfl,by decide +kernel,rfl,by decide +kernel,by decide +kernel⟩
theorem p9:aq ["plan","thing"] ["plan","thing"] (ae fE):=⟨rfl,rfl,rfl,by decide +kernel,rfl,by decide +kernel,by decide +kernel⟩
theorem yS:aq ["row"] ["row"] (ae nv):=⟨rfl,rfl,rfl,by decide +kernel,rfl,by decide +kernel,by decide +kernel⟩
theorem Au:aq ["row"] ["row"] (ae lZ):=⟨rfl,rfl,rfl,by decide +kernel,rfl,by decide +kernel,by decide +kernel⟩
noncomputable def qy:Scope:={ kind:=.function,names:=[(".0",.local),("first",.local),("second",.local)],isGenerator:=false,isCoroutine:=false,more:=[] }
theorem iX:Blk ["row"] (ae lZ) qy ["first","second"] [none,none]:=⟨rfl,by decide +kernel,by decide +kernel,by decide +kernel,by decide +kernel,rfl,by decide +kernel⟩
theorem w6:aq ["self"] ["self"] (ae kI):=⟨rfl,rfl,rfl,by decide +kernel,rfl,by decide +kernel,by decide +kernel⟩
theorem tN:aq ["self","row"] ["self","row"] (ae iH):=⟨rfl,rfl,rfl,by decide +kernel,rfl,by decide +kernel,by decide +kernel⟩
theorem tM:aq ["self","row"] ["self","row"] (ae iG):=⟨rfl,rfl,rfl,by decide +kernel,rfl,by decide +kernel,by decide +kernel⟩
theorem jU:aq ["self","row","sums"] ["self","row"] (ae dZ):=⟨rfl,rfl,rfl,by decide +kernel,rfl,by decide +kernel,by decide +kernel⟩
noncomputable def kh:Scope:={ kind:=.function,names:=[(".0",.local),("first",.local),("second",.local),("self",.free)],isGenerator:=false,isCoroutine:=false,more:=[] }
theorem dE:Blk ["self","row","sums"] (ae dZ) kh ["first","second","self"] [none,none,some 0]:=⟨rfl,by decide +kernel,by decide +kernel,by decide +kernel,by decide +kernel,rfl,by decide +kernel⟩
theorem mh:aq ["self","first","second"] ["self","first","second"] (ae dv):=⟨rfl,rfl,rfl,by decide +kernel,rfl,by decide +kernel,by decide +kernel⟩
theorem mi:aq ["self","number"] ["self","number"] (ae dz):=⟨rfl,rfl,rfl,by decide +kernel,rfl,by decide +kernel,by decide +kernel⟩
theorem tQ:aq ["self"] ["self"] (ae iK):=⟨rfl,rfl,rfl,by decide +kernel,rfl,by decide +kernel,by decide +kernel⟩
theorem kb:aq ["self","first","second"] ["self","first","second"] (ae cL):=⟨rfl,rfl,rfl,by decide +kernel,rfl,by decide +kernel,by decide +kernel⟩
theorem kc:aq ["self","number"] ["self","number"] (ae cM):=⟨rfl,rfl,rfl,by decide +kernel,rfl,by decide +kernel,by decide +kernel⟩
theorem G1:aq ["numbers","at"] ["numbers","at"] (ae Av):=⟨rfl,rfl,rfl,by decide +kernel,rfl,by decide +kernel,by decide +kernel⟩
theorem As:aq ["firsts","many"] ["firsts","many"] (ae lY):=⟨rfl,rfl,rfl,by decide +kernel,rfl,by decide +kernel,by decide +kernel⟩
noncomputable def qx:Scope:={ kind:=.function,names:=[(".0",.local),("at",.local),("near",.globalImplicit),("firsts",.free)],isGenerator:=false,isCoroutine:=false,more:=[] }
theorem ng:Blk ["firsts","many"] (ae lY) qx ["at","firsts"] [none,some 0]:=⟨rfl,by decide +kernel,by decide +kernel,by decide +kernel,by decide +kernel,rfl,by decide +kernel⟩
theorem D9:aq ["differences","many"] ["differences","many"] (ae sf):=⟨rfl,rfl,rfl,by decide +kernel,rfl,by decide +kernel,by decide +kernel⟩
noncomputable def uV:Scope:={ kind:=.function,names:=[(".0",.local),("at",.local),("near",.globalImplicit),("differences",.free)],isGenerator:=false,isCoroutine:=false,more:=[] }
theorem q_:Blk ["differences","many"] (ae sf) uV ["at","differences"] [none,some 0]:=⟨rfl,by decide +kernel,by decide +kernel,by decide +kernel,by decide +kernel,rfl,by decide +kernel⟩
theorem D_:aq ["sums","many"] ["sums","many"] (ae sg):=⟨rfl,rfl,rfl,by decide +kernel,rfl,by decide +kernel,by decide +kernel⟩
noncomputable def uW:Scope:={ kind:=.function,names:=[(".0",.local),("at",.local),("near",.globalImplicit),("sums",.free)],isGenerator:=false,isCoroutine:=false,more:=[] }
theorem rh:Blk ["sums","many"] (ae sg) uW ["at","sums"] [none,some 0]:=⟨rfl,by decide +kernel,by decide +kernel,by decide +kernel,by decide +kernel,rfl,by decide +kernel⟩
theorem rB:aq ["self"] ["self"] (ae gI):=⟨rfl,rfl,rfl,by decide +kernel,rfl,by decide +kernel,by decide +kernel⟩
theorem cG:aq ["self","row","firsts","seconds","differences","sums"] ["self","row"] (ae cj):=⟨rfl,rfl,rfl,by decide +kernel,rfl,by decide +kernel,by decide +kernel⟩
noncomputable def jh:Scope:={ kind:=.function,names:=[(".0",.local),("first",.local),("lift",.local)],isGenerator:=false,isCoroutine:=false,more:=[] }
theorem cT:Blk ["self","row","firsts","seconds","differences","sums"] (ae cj) jh ["first","lift"] [none,none]:=⟨rfl,by decide +kernel,by decide +kernel,by decide +kernel,by decide +kernel,rfl,by decide +kernel⟩
noncomputable def jg:Scope:={ kind:=.function,names:=[(".0",.local),("second",.local),("guess",.local)],isGenerator:=false,isCoroutine:=false,more:=[] }
theorem cS:Blk ["self","row","firsts","seconds","differences","sums"] (ae cj) jg ["second","guess"] [none,none]:=⟨rfl,by decide +kernel,by decide +kernel,by decide +kernel,by decide +kernel,rfl,by decide +kernel⟩
theorem rA:aq ["self"] ["self"] (ae gH):=⟨rfl,rfl,rfl,by decide +kernel,rfl,by decide +kernel,by decide +kernel⟩
theorem iq:aq ["self","row","sums","gaps"] ["self","row"] (ae c5):=⟨rfl,rfl,rfl,by decide +kernel,rfl,by decide +kernel,by decide +kernel⟩
noncomputable def jf:Scope:={ kind:=.function,names:=[(".0",.local),("gap",.local),("lean",.local)],isGenerator:=false,isCoroutine:=false,more:=[] }
theorem cR:Blk ["self","row","sums","gaps"] (ae c5) jf ["gap","lean"] [none,none]:=⟨rfl,by decide +kernel,by decide +kernel,by decide +kernel,by decide +kernel,rfl,by decide +kernel⟩
theorem wZ:aq [] [] (ae kD):=⟨rfl,rfl,rfl,by decide +kernel,rfl,by decide +kernel,by decide +kernel⟩
theorem tK:aq ["word","rule"] ["word"] (ae qb):=⟨rfl,rfl,rfl,by decide +kernel,rfl,by decide +kernel,by decide +kernel⟩
theorem wY:aq ["letter","height","width"] ["letter","height","width"] (ae kC):=⟨rfl,rfl,rfl,by decide +kernel,rfl,by decide +kernel,by decide +kernel⟩
theorem df:aq ["height","width","way","corners","letter"] ["height","width","way"] (ae jz):=⟨rfl,rfl,rfl,by decide +kernel,rfl,by decide +kernel,by decide +kernel⟩
theorem p_:aq ["self","height","width","word","way"] ["self","height","width","word","way"] (ae fF):=⟨rfl,rfl,rfl,by decide +kernel,rfl,by decide +kernel,by decide +kernel⟩
theorem tO:aq ["self"] ["self"] (ae iI):=⟨rfl,rfl,rfl,by decide +kernel,rfl,by decide +kernel,by decide +kernel⟩
theorem vc:aq ["self"] ["self"] (ae jD):=⟨rfl,rfl,rfl,by decide +kernel,rfl,by decide +kernel,by decide +kernel⟩
theorem w9:aq ["self"] ["self"] (ae kJ):=⟨rfl,rfl,rfl,by decide +kernel,rfl,by decide +kernel,by decide +kernel⟩
theorem yV:aq ["self"] ["self"] (ae nB):=⟨rfl,rfl,rfl,by decide +kernel,rfl,by decide +kernel,by decide +kernel⟩
theorem vd:aq ["self"] ["self"] (ae jE):=⟨rfl,rfl,rfl,by decide +kernel,rfl,by decide +kernel,by decide +kernel⟩
theorem tP:aq ["self","step"] ["self","step"] (ae iJ):=⟨rfl,rfl,rfl,by decide +kernel,rfl,by decide +kernel,by decide +kernel⟩
theorem CS:aq ["rows"] ["rows"] (ae n8):=⟨rfl,rfl,rfl,by decide +kernel,rfl,by decide +kernel,by decide +kernel⟩
noncomputable def rV:Scope:={ kind:=.function,names:=[(".0",.local),("x",.cell),("rows",.free)],isGenerator:=false,isCoroutine:=false,more:=[] }
theorem pN:Blk ["rows"] (ae n8) rV ["x","rows"] [none,some 0]:=⟨rfl,by decide +kernel,by decide +kernel,by decide +kernel,by decide +kernel,rfl,by decide +kernel⟩
noncomputable def rT:Scope:={ kind:=.function,names:=[(".0",.local),("x",.cell),("rows",.cell)],isGenerator:=false,isCoroutine:=false,more:=[] }
noncomputable def rS:Scope:={ kind:=.function,names:=[(".0",.local),("row",.local),("x",.free)],isGenerator:=false,isCoroutine:=false,more:=[] }
theorem pM:Blk ["x","rows"] (rT) rS ["row","x"] [none,some 0]:=⟨rfl,by decide +kernel,by decide +kernel,by decide +kernel,by decide +kernel,rfl,by decide +kernel⟩
theorem ju:aq ["part","row","many","sums","differences"] ["part","row","many"] (ae kB):=⟨rfl,rfl,rfl,by decide +kernel,rfl,by decide +kernel,by decide +kernel⟩
theorem u_:aq ["part","rows","height","width"] ["part","rows","height","width"] (ae gb):=⟨rfl,rfl,rfl,by decide +kernel,rfl,by decide +kernel,by decide +kernel⟩
noncomputable def mr:Scope:={ kind:=.function,names:=[(".0",.local),("row",.local),("halve_row",.globalImplicit),("part",.free),("width",.free)],isGenerator:=false,isCoroutine:=false,more:=[] }
theorem jc:Blk ["part","rows","height","width"] (ae gb) mr ["row","part","width"] [none,some 0,some 3]:=⟨rfl,by decide +kernel,by decide +kernel,by decide +kernel,by decide +kernel,rfl,by decide +kernel⟩
theorem cC:aq ["plan","part","rows","step","height","width","letter"] ["plan","part","rows","step"] (ae jw):=⟨rfl,rfl,rfl,by decide +kernel,rfl,by decide +kernel,by decide +kernel⟩
theorem gB:aq ["plan","part","rows","step"] ["plan","part","rows"] (ae iE):=⟨rfl,rfl,rfl,by decide +kernel,rfl,by decide +kernel,by decide +kernel⟩
theorem vJ:aq ["plan","picture","rule"] ["plan","picture"] (ae cK):=⟨rfl,rfl,rfl,by decide +kernel,rfl,by decide +kernel,by decide +kernel⟩
theorem w5:aq ["_law_script","_law_k"] ["_law_script","_law_k"] (ae kH):=⟨rfl,rfl,rfl,by decide +kernel,rfl,by decide +kernel,by decide +kernel⟩
theorem yU:aq ["_law_cell_here"] ["_law_cell_here"] (ae nA):=⟨rfl,rfl,rfl,by decide +kernel,rfl,by decide +kernel,by decide +kernel⟩
theorem dX:aq ["_law_box_here","_law_many","_law_digit","_law_far","_law_number"] ["_law_box_here","_law_many"] (ae kE):=⟨rfl,rfl,rfl,by decide +kernel,rfl,by decide +kernel,by decide +kernel⟩
theorem jv:aq ["_law_box_here","_law_way_here","_law_high"] ["_law_box_here"] (ae kF):=⟨rfl,rfl,rfl,by decide +kernel,rfl,by decide +kernel,by decide +kernel⟩
theorem bO:aq ["_law_box_here","_law_size_here","_law_high","_law_wide","_law_way_here","_law_k","_law_some","_law_letter"] ["_law_box_here","_law_size_here"] (ae nz):=⟨rfl,rfl,rfl,by decide +kernel,rfl,by decide +kernel,by decide +kernel⟩
theorem bE:aq ["_law_size_here","_law_way_here","_law_found","_law_letter","_law_high","_law_wide"] ["_law_size_here","_law_way_here"] (ae gF):=⟨rfl,rfl,rfl,by decide +kernel,rfl,by decide +kernel,by decide +kernel⟩
theorem mM:aq ["_law_box_here","_law_way_here"] ["_law_box_here"] (ae jB):=⟨rfl,rfl,rfl,by decide +kernel,rfl,by decide +kernel,by decide +kernel⟩
theorem cZ:aq ["_law_box_here","_law_size_here","_law_seed","_law_most","_law_rows_here","_law_y","_law_some"] ["_law_box_here","_law_size_here"] (ae dH):=⟨rfl,rfl,rfl,by decide +kernel,rfl,by decide +kernel,by decide +kernel⟩
noncomputable def nR:Scope:={ kind:=.function,names:=[(".0",.local),("_law_y",.local),("range",.globalImplicit),("_law_box_here",.free),("_law_size_here",.free)],isGenerator:=false,isCoroutine:=false,more:=[] }
theorem j_:Blk ["_law_box_here","_law_size_here","_law_seed","_law_most","_law_rows_here","_law_y","_law_some"] (ae dH) nR ["_law_y","_law_box_here","_law_size_here"] [none,some 0,some 1]:=⟨rfl,by decide +kernel,by decide +kernel,by decide +kernel,by decide +kernel,rfl,by decide +kernel⟩
noncomputable def nQ:Scope:={ kind:=.function,names:=[(".0",.local),("_law_y",.local),("range",.globalImplicit),("_law_box_here",.cell),("_law_size_here",.cell)],isGenerator:=false,isCoroutine:=false,more:=[] }
noncomputable def nO:Scope:={ kind:=.function,names:=[(".0",.local),("_law_x",.local),("_law_value",.globalImplicit),("_law_box_here",.free)],isGenerator:=false,isCoroutine:=false,more:=[] }
theorem j9:Blk ["_law_y","_law_box_here","_law_size_here"] (nQ) nO ["_law_x","_law_box_here"] [none,some 1]:=⟨rfl,by decide +kernel,by decide +kernel,by decide +kernel,by decide +kernel,rfl,by decide +kernel⟩
noncomputable def nN:Scope:={ kind:=.function,names:=[(".0",.local),("_law_number",.local),("_law_most",.free)],isGenerator:=false,isCoroutine:=false,more:=[] }
theorem j8:Blk ["_law_box_here","_law_size_here","_law_seed","_law_most","_law_rows_here","_law_y","_law_some"] (ae dH) nN ["_law_number","_law_most"] [none,some 3]:=⟨rfl,by decide +kernel,by decide +kernel,by decide +kernel,by decide +kernel,rfl,by decide +kernel⟩
noncomputable def nM:Scope:={ kind:=.function,names:=[(".0",.local),("_law_x",.local),("_law_seed",.free),("_law_y",.free)],isGenerator:=false,isCoroutine:=false,more:=[] }
theorem j7:Blk ["_law_box_here","_law_size_here","_law_seed","_law_most","_law_rows_here","_law_y","_law_some"] (ae dH) nM ["_law_x","_law_seed","_law_y"] [none,some 2,some 5]:=⟨rfl,by decide +kernel,by decide +kernel,by decide +kernel,by decide +kernel,rfl,by decide +kernel⟩
theorem bD:aq ["_law_ones","_law_others","_law_plain","_law_at","_law_other","_law_sums","_law_one"] ["_law_ones","_law_others"] (ae gE):=⟨rfl,rfl,rfl,by decide +kernel,rfl,by decide +kernel,by decide +kernel⟩
theorem vb:aq ["_law_sums","_law_at"] ["_law_sums","_law_at"] (ae jC):=⟨rfl,rfl,rfl,by decide +kernel,rfl,by decide +kernel,by decide +kernel⟩
theorem bP:aq ["_law_word","_law_row","_law_ones","_law_others","_law_left","_law_sums","_law_plain"] ["_law_word","_law_row"] (ae bY):=⟨rfl,rfl,rfl,by decide +kernel,rfl,by decide +kernel,by decide +kernel⟩
noncomputable def mz:Scope:={ kind:=.function,names:=[(".0",.local),("_law_at",.local),("_law_number",.local),("_law_leans",.globalImplicit),("_law_sums",.free)],isGenerator:=false,isCoroutine:=false,more:=[] }
theorem eZ:Blk ["_law_word","_law_row","_law_ones","_law_others","_law_left","_law_sums","_law_plain"] (ae bY) mz ["_law_at","_law_number","_law_sums"] [none,none,some 5]:=⟨rfl,by decide +kernel,by decide +kernel,by decide +kernel,by decide +kernel,rfl,by decide +kernel⟩
noncomputable def my:Scope:={ kind:=.function,names:=[(".0",.local),("_law_total",.local)],isGenerator:=false,isCoroutine:=false,more:=[] }
theorem je:Blk ["_law_word","_law_row","_law_ones","_law_others","_law_left","_law_sums","_law_plain"] (ae bY) my ["_law_total"] [none]:=⟨rfl,by decide +kernel,by decide +kernel,by decide +kernel,by decide +kernel,rfl,by decide +kernel⟩
noncomputable def mx:Scope:={ kind:=.function,names:=[(".0",.local),("_law_number",.local)],isGenerator:=false,isCoroutine:=false,more:=[] }
theorem jd:Blk ["_law_word","_law_row","_law_ones","_law_others","_law_left","_law_sums","_law_plain"] (ae bY) mx ["_law_number"] [none]:=⟨rfl,by decide +kernel,by decide +kernel,by decide +kernel,by decide +kernel,rfl,by decide +kernel⟩
noncomputable def mw:Scope:={ kind:=.function,names:=[(".0",.local),("_law_one",.local),("_law_other",.local)],isGenerator:=false,isCoroutine:=false,more:=[] }
theorem eY:Blk ["_law_word","_law_row","_law_ones","_law_others","_law_left","_law_sums","_law_plain"] (ae bY) mw ["_law_one","_law_other"] [none,none]:=⟨rfl,by decide +kernel,by decide +kernel,by decide +kernel,by decide +kernel,rfl,by decide +kernel⟩
noncomputable def mv:Scope:={ kind:=.function,names:=[(".0",.local),("_law_one",.local),("_law_other",.local)],isGenerator:=false,isCoroutine:=false,more:=[] }
theorem eX:Blk ["_law_word","_law_row","_law_ones","_law_others","_law_left","_law_sums","_law_plain"] (ae bY) mv ["_law_one","_law_other"] [none,none]:=⟨rfl,by decide +kernel,by decide +kernel,by decide +kernel,by decide +kernel,rfl,by decide +kernel⟩
theorem ip:aq ["_law_word","_law_rows_here","_law_corner","_law_y"] ["_law_word","_law_rows_here","_law_corner"] (ae eL):=⟨rfl,rfl,rfl,by decide +kernel,rfl,by decide +kernel,by decide +kernel⟩
theorem bw:aq ["_law_word","_law_rows_here","_law_corner","_law_x","_law_line","_law_y","_law_number"] ["_law_word","_law_rows_here","_law_corner"] (ae cc):=⟨rfl,rfl,rfl,by decide +kernel,rfl,by decide +kernel,by decide +kernel⟩
noncomputable def g0:Scope:={ kind:=.function,names:=[(".0",.local),("_law_y",.local),("_law_rows_here",.free),("_law_x",.free)],isGenerator:=false,isCoroutine:=false,more:=[] }
theorem dM:Blk ["_law_word","_law_rows_here","_law_corner","_law_x","_law_line","_law_y","_law_number"] (ae cc) g0 ["_law_y","_law_rows_here","_law_x"] [none,some 1,some 3]:=⟨rfl,by decide +kernel,by decide +kernel,by decide +kernel,by decide +kernel,rfl,by decide +kernel⟩
theorem w4:aq ["_law_word","_law_rows_here","_law_letter","_law_corner"] ["_law_word","_law_rows_here","_law_letter","_law_corner"] (ae kG):=⟨rfl,rfl,rfl,by decide +kernel,rfl,by decide +kernel,by decide +kernel⟩
noncomputable abbrev ub:Ls0:=(["_law_script","_law_k","_law_box_here","_law_size_here","_law_word","_law_way_here","_law_rows_here","_law_due","_law_letter","_law_corner","_law_plan","_law_picture","_law_turn","_law_found","_law_other"]:Ls0)++phs 65
theorem EC:EB ub (ae vK) 15=true:=by decide +kernel
theorem J6 {x0:Option Sl}:dd ub [x0]=x0::none::none::none::none::none::none::none::none::none::none::none::none::none::none::tlG (nn 65++tlE):=An (N:=["_law_script","_law_k","_law_box_here","_law_size_here","_law_word","_law_way_here","_law_rows_here","_law_due","_law_letter","_law_corner","_law_plan","_law_picture","_law_turn","_law_found","_law_other"]) (Γa:=[x0]) (by decide:1<=15)
theorem du:aq ub ["_law_script"] (ae vK):=⟨rfl,rfl,rfl,by decide +kernel,rfl,by decide +kernel,by decide +kernel⟩
noncomputable def yB:Scope:={ kind:=.function,names:=[(".0",.local),("_law_row",.local),("list",.globalImplicit)],isGenerator:=false,isCoroutine:=false,more:=[] }
theorem wC:Blk ub (ae vK) yB ["_law_row"] [none]:=⟨rfl,by decide +kernel,by decide +kernel,by decide +kernel,by decide +kernel,rfl,by decide +kernel⟩
noncomputable def yA:Scope:={ kind:=.function,names:=[(".0",.local),("_law_row",.local),("list",.globalImplicit)],isGenerator:=false,isCoroutine:=false,more:=[] }
theorem md:Blk ub (ae vK) yA ["_law_row"] [none]:=⟨rfl,by decide +kernel,by decide +kernel,by decide +kernel,by decide +kernel,rfl,by decide +kernel⟩
set_option genInjectivity false in
set_option genSizeOf false in
structure Ad where
 a_:Addr
 bL:Addr
 aI:Addr
 aL:Addr
 aT:Addr
 aK:Addr
 aW:Addr
 bz:Addr
 uJ:Addr
 qM:FuncData
 qS:Addr
 oV:FuncData
 zM:Addr
 wk:FuncData
 wq:Addr
 uF:FuncData
 iC:Addr
 gT:FuncData
 uK:Addr
 qN:FuncData
 eU:Addr
 iB:FuncData
 gY:Addr
 j5:FuncData
 iV:Addr
 lB:FuncData
 jO:Addr
 m7:FuncData
 gX:Addr
 j4:FuncData
 eR:Addr
 iA:FuncData
 nK:Addr
 qR:FuncData
 wm:Addr
 uB:FuncData
 m9:Addr
 k8:FuncData
 pj:Addr
 mX:FuncData
 lC:Addr
 jW:FuncData
 j6:Addr
 i_:FuncData
 uI:Addr
 qK:FuncData
 wu:Addr
 uH:FuncData
 lF:Addr
 o8:FuncData
 cE:Addr
 k_:FuncData
 fj:Addr
 k9:FuncData
 cm:Addr
 jZ:FuncData
 cy:Addr
 fQ:FuncData
 cz:Addr
 fR:FuncData
 iU:Addr
 lA:FuncData
 b9:Addr
 eE:FuncData
 b_:Addr
 eF:FuncData
 FG:Addr
 Cn:FuncData
 wt:Addr
 uG:FuncData
 yb:Addr
 uD:FuncData
 yc:Addr
 uE:FuncData
 gW:Addr
 j1:FuncData
 eQ:Addr
 iz:FuncData
 gU:Addr
 j0:FuncData
 eP:Addr
 iy:FuncData
 qV:Addr
 oY:FuncData
 wo:Addr
 uC:FuncData
 qU:Addr
 oX:FuncData
 ph:Addr
 mW:FuncData
 fM:Addr
 ja:FuncData
 iS:Addr
 lg:FuncData
 jM:Addr
 m5:FuncData
 lH:Addr
 o9:FuncData
 nJ:Addr
 qQ:FuncData
 jN:Addr
 m6:FuncData
 iT:Addr
 lz:FuncData
 zL:Addr
 wj:FuncData
 qT:Addr
 oW:FuncData
 pb:Addr
 mV:FuncData
 o_:Addr
 mU:FuncData
 m8:Addr
 k7:FuncData
 zN:Addr
 qv:FuncData
 q8:Addr
 o7:FuncData
 uM:Addr
 qP:FuncData
 qW:Addr
 oZ:FuncData
 qX:Addr
 o4:FuncData
 uL:Addr
 qO:FuncData
 lE:Addr
 jY:FuncData
 pq:Addr
 mY:FuncData
 qY:Addr
 o5:FuncData
 lD:Addr
 jX:FuncData
 pw:Addr
 m4:FuncData
 pv:Addr
 mZ:FuncData
 jb:Addr
 ix:FuncData
 fU:Addr
 fu:FuncData
 qZ:Addr
 o6:FuncData
 FI:Addr
 Bb:FuncData
 ey:Addr
 dj:Addr
structure Txt (K:Fg0) (mg:SV) (a:Ad):Prop where
 bu:Cls K a.aI
 kU:mg "Field"=some (.ref a.aI)
 nL:Cls K a.aL
 AY:mg "Guessed"=some (.ref a.aL)
 mk_Guessed:Mk0 K a.aL
 gr:Cls K a.aT
 Dk:mg "Halves"=some (.ref a.aT)
 mk_Halves:Mk0 K a.aT
 eV:Cls K a.aK
 AX:mg "Leaning"=some (.ref a.aK)
 mk_Leaning:Mk0 K a.aK
 cg:Cls K a.aW
 BY:mg "Plan"=some (.ref a.aW)
 ma:Cls K a.bz
 HS:mg "Sums"=some (.ref a.bz)
 mk_Sums:Mk0 K a.bz
 dg:ez K a.aI "grid"
 kS:ez K a.aW "chosen"
 dm:ez K a.aW "corners"
 fJ:ez K a.aW "letters"
 dq:Lu K mg "ALONG_PILLARS" a.a_ ["p","b"]
 gj:Lu K mg "ALONG_ROWS" a.bL ["r","b"]
 tys:TyS K
 aM:FX K mg "is_whole" "is_whole" ny a.uJ a.qM ["thing","low","high"]
 hV:FX K mg "is_number" "is_number" kA a.qS a.oV ["thing"]
 gx:FX K mg "is_row" "is_row" n9 a.zM a.wk ["thing","least"]
 eJ:FX K mg "is_size" "is_size" qc a.wq a.uF ["height","width"]
 cF:FX K mg "is_place_within" "is_place_within" dY a.iC a.gT ["thing","height","width"]
 jm:FX K mg "are_rows" "are_rows" gD a.uK a.qN ["thing"]
 cY:FY K "__init__" "Field.__init__" c6 a.eU a.iB ["self","rows"]
 dW:FY K "height" "Field.height" gJ a.gY a.j5 ["self"]
 fc:FY K "width" "Field.width" iL a.iV a.lB ["self"]
 dU:FY K "rows" "Field.rows" gc a.jO a.m7 ["self"]
 km:FY K "places" "Field.places" d_ a.gX a.j4 ["self"]
 i4:FY K "is_place" "Field.is_place" eM a.eR a.iA ["self","thing"]
 sV:FY K "at" "Field.at" nC a.nK a.qR ["self","place"]
 eI:FX K mg "size_of" "size_of" qa a.wm a.uB ["thing"]
 e_:FX K mg "check_field" "check_field" iF a.m9 a.k8 ["thing"]
 fY:FX K mg "check_size" "check_size" jA a.pj a.mX ["plan","thing"]
 dO:FX K mg "check_bounds" "check_bounds" gC a.lC a.jW ["field","low","high"]
 dk:FX K mg "check_picture" "check_picture" fE a.j6 a.i_ ["plan","thing"]
 dr:FX K mg "pairs_of" "pairs_of" nv a.uI a.qK ["row"]
 eK:FX K mg "gaps_of" "gaps_of" lZ a.wu a.uH ["row"]
 qA:FY K "word" "Sums.word" kI a.lF a.o8 ["self"]
 de:FY K "halves" "Sums.halves" iH a.cE a.k_ ["self","row"]
 iD:FY K "parted" "Sums.parted" iG a.fj a.k9 ["self","row"]
 dR:FY K "sums_of" "Sums.sums_of" dZ a.cm a.jZ ["self","row"]
 gz:FY K "sum_of_pair" "Sums.sum_of_pair" dv a.cy a.fQ ["self","first","second"]
 gA:FY K "sum_of_lone" "Sums.sum_of_lone" dz a.cz a.fR ["self","number"]
 mJ:FY K "word" "Halves.word" iK a.iU a.lA ["self"]
 cI:FY K "sum_of_pair" "Halves.sum_of_pair" cL a.b9 a.eE ["self","first","second"]
 cJ:FY K "sum_of_lone" "Halves.sum_of_lone" cM a.b_ a.eF ["self","number"]
 da:FX K mg "near" "near" Av a.FG a.Cn ["numbers","at"]
 lU:FX K mg "guesses" "guesses" lY a.wt a.uG ["firsts","many"]
 rZ:FX K mg "lifts" "lifts" sf a.yb a.uD ["differences","many"]
 r8:FX K mg "leans" "leans" sg a.yc a.uE ["sums","many"]
 kl:FY K "word" "Guessed.word" gI a.gW a.j1 ["self"]
 iZ:FY K "parted" "Guessed.parted" cj a.eQ a.iz ["self","row"]
 kj:FY K "word" "Leaning.word" gH a.gU a.j0 ["self"]
 iY:FY K "parted" "Leaning.parted" c5 a.eP a.iy ["self","row"]
 h9:FX K mg "all_rules" "all_rules" kD a.qV a.oY []
 lT:FX K mg "rule_of" "rule_of" qb a.wo a.uC ["word"]
 hZ:FX K mg "can_halve" "can_halve" kC a.qU a.oX ["letter","height","width"]
 fX:FX K mg "corners_of" "corners_of" jz a.ph a.mW ["height","width","way"]
 fB:FY K "__init__" "Plan.__init__" fF a.fM a.ja ["self","height","width","word","way"]
 mG:FY K "height" "Plan.height" iI a.iS a.lg ["self"]
 nX:FY K "width" "Plan.width" jD a.jM a.m5 ["self"]
 qB:FY K "rule" "Plan.rule" kJ a.lH a.o9 ["self"]
 sU:FY K "way" "Plan.way" nB a.nJ a.qQ ["self"]
 jr:FY K "steps" "Plan.steps" jE a.jN a.m6 ["self"]
 mH:FY K "corner" "Plan.corner" iJ a.iT a.lz ["self","step"]
 gw:FX K mg "turned" "turned" n8 a.zL a.wj ["rows"]
 hX:FX K mg "halve_row" "halve_row" kB a.qT a.oW ["part","row","many"]
 cu:FX K mg "halve_rows" "halve_rows" gb a.pb a.mV ["part","rows","height","width"]
 fW:FX K mg "step_forth" "step_forth" jw a.o_ a.mU ["plan","part","rows","step"]
 e9:FX K mg "steps_forth" "steps_forth" iE a.m8 a.k7 ["plan","part","rows"]
 gy:FX K mg "halved" "halved" cK a.zN a.qv ["plan","picture"]
 DC:a.qv.code=.ref a.ey
 Dw:PySem.W.codeHdIn K a.ey a.dj=true
 ik:FX K mg "_law_cell" "_law_cell" kH a.q8 a.o7 ["_law_script","_law_k"]
 jq:FX K mg "_law_box" "_law_box" nA a.uM a.qP ["_law_cell_here"]
 ao:FX K mg "_law_take" "_law_take" kE a.qW a.oZ ["_law_box_here","_law_many"]
 h_:FX K mg "_law_size" "_law_size" kF a.qX a.o4 ["_law_box_here"]
 jo:FX K mg "_law_way" "_law_way" nz a.uL a.qO ["_law_box_here","_law_size_here"]
 dQ:FX K mg "_law_corners" "_law_corners" gF a.lE a.jY ["_law_size_here","_law_way_here"]
 fZ:FX K mg "_law_value" "_law_value" jB a.pq a.mY ["_law_box_here"]
 ig:FX K mg "_law_rows" "_law_rows" dH a.qY a.o5 ["_law_box_here","_law_size_here"]
 dP:FX K mg "_law_guessed" "_law_guessed" gE a.lD a.jX ["_law_ones","_law_others"]
 f_:FX K mg "_law_leans" "_law_leans" jC a.pw a.m4 ["_law_sums","_law_at"]
 cv:FX K mg "_law_split" "_law_split" bY a.pv a.mZ ["_law_word","_law_row"]
 cX:FX K mg "_law_rows_done" "_law_rows_done" eL a.jb a.ix ["_law_word","_law_rows_here","_law_corner"]
 cb:FX K mg "_law_pillars_done" "_law_pillars_done" cc a.fU a.fu ["_law_word","_law_rows_here","_law_corner"]
 ij:FX K mg "_law_done" "_law_done" kG a.qZ a.o6 ["_law_word","_law_rows_here","_law_letter","_law_corner"]
 Ly:FX K mg "law" "law" vK a.FI a.Bb ["_law_script"]
 mk_Field:Mk K a.aI a.eU
 mk_Plan:Mk K a.aW a.fM
 fK:Meth K a.aI "height" a.gY
 gL:Meth K a.aI "width" a.iV
 fi:Meth K a.aI "rows" a.jO
 rP:Meth K a.aI "places" a.gX
 oM:Meth K a.aI "is_place" a.eR
 zj:Meth K a.aI "at" a.nK
 rO:Meth K a.aL "word" a.gW
 oJ:Meth K a.aL "parted" a.eQ
 oK:Meth K a.aL "halves" a.cE
 AR:Meth K a.aL "sums_of" a.cm
 xE:Meth K a.aL "sum_of_pair" a.cy
 xF:Meth K a.aL "sum_of_lone" a.cz
 uj:Meth K a.aT "word" a.iU
 ke:Meth K a.aT "sum_of_pair" a.b9
 kf:Meth K a.aT "sum_of_lone" a.b_
 qi:Meth K a.aT "halves" a.cE
 qh:Meth K a.aT "parted" a.fj
 oH:Meth K a.aT "sums_of" a.cm
 rN:Meth K a.aK "word" a.gU
 oF:Meth K a.aK "parted" a.eP
 jJ:Meth K a.aK "sum_of_pair" a.b9
 jK:Meth K a.aK "sum_of_lone" a.b_
 oG:Meth K a.aK "halves" a.cE
 nG:Meth K a.aK "sums_of" a.cm
 uh:Meth K a.aW "height" a.iS
 vo:Meth K a.aW "width" a.jM
 xD:Meth K a.aW "rule" a.lH
 zi:Meth K a.aW "way" a.nJ
 mR:Meth K a.aW "steps" a.jN
 ui:Meth K a.aW "corner" a.iT
 xC:Meth K a.bz "word" a.lF
 ug:Meth K a.bz "halves" a.cE
 uf:Meth K a.bz "parted" a.fj
 rM:Meth K a.bz "sums_of" a.cm
 mm:Meth K a.bz "sum_of_pair" a.cy
 mn:Meth K a.bz "sum_of_lone" a.cz
 nc:∃ t,mg "MOST_NUMBER"=some (.int 999999999999999 t)
 vw:∃ t,mg "MOST_PLACES"=some (.int 512 t)
 lM:∃ t,mg "MOST_SIDE"=some (.int 64 t)
 pK:∃ t,mg "MOST_VALUE"=some (.int 100000 t)
 zv:JP K a.aI
 z_all:mg "all"=none
 z_bool:mg "bool"=none
 z_enumerate:mg "enumerate"=none
 z_int:mg "int"=none
 z_isinstance:mg "isinstance"=none
 z_len:mg "len"=none
 z_list:mg "list"=none
 z_max:mg "max"=none
 z_min:mg "min"=none
 z_range:mg "range"=none
 z_repr:mg "repr"=none
 z_str:mg "str"=none
 z_tuple:mg "tuple"=none
 z_zip:mg "zip"=none
 ty:gk K
noncomputable abbrev il (ns:Li0):D:=.lst (ns.map .int)
def Fig (ns:Li0):Prop:=∀ n∈ns,-1000000000000000 < n/\n < 1000000000000000
theorem snoc {f:Nat->D} {k:Nat} {d:D} (h:d=f k):(List.range k).map f++[d]=(List.range (k + 1)).map f:=by
 rw[List.range_succ,List.map_append,h];rfl
theorem ints_get {ns:Li0} {k:Nat} {d:D} (h:(ns.map D.int)[k]?=some d):k < ns.length/\d=.int (ns.getD k 0):=by
 have lt:k < ns.length:=by have:=(gS0 h).1;simpa using this
 rw[List.getElem?_map,gE0 lt] at h;cases h;exact⟨lt,by simp [List.getD,lt]⟩
theorem xG {f:Nat->D} {k n:Nat} {d:D} (h:((List.range n).map f)[k]?=some d):k < n/\d=f k:=by
 have lt:k < n:=by have:=(gS0 h).1;simpa using this
 rw[List.getElem?_map,List.getElem?_range lt] at h;cases h;exact⟨lt,rfl⟩
theorem Ii {ns:Li0} (f:Fig ns) {k:Nat} (h:k < ns.length):-1000000000000000 < ns.getD k 0/\ns.getD k 0 < 1000000000000000:=by
 have:ns.getD k 0=ns[k]:=by simp [List.getD,h]
 rw[this];exact f _ (List.getElem_mem h)
theorem small {n:Nat} (h:n<=1000):n < sizeLine:=by rw[sizeLine_eq];omega
theorem jV (f:Nat->Int) (n:Nat):(List.range n).map (fun j=>D.int (f j))=((List.range n).map f).map D.int:=by rw[List.map_map];rfl
theorem xh {α β:Type} (f:α->β) (xs:List α) (lo hi st:Option Int):pk (xs.map f) lo hi st=(pk xs lo hi st).map f:=by
 unfold pk;rw[lM0,List.map_filterMap]
 congr 1
 funext x
 rw[List.getElem?_map]
theorem pk0 (ns:Li0):pk (ns.map D.int) (some 0) none (some 2)=(List.range ((ns.length + 1) / 2)).map fun k=>D.int (ns.getD (2 * k) 0):=by
 have h:=Ma ns;have e:kN (ns.map V.int) (some 0) none (some 2)=(pk ns (some 0) none (some 2)).map V.int:=xh V.int ns _ _ _;rw[e,show (List.range ((ns.length + 1) / 2)).map (fun k=>V.int (ns.getD (2 * k) 0))=((List.range ((ns.length + 1) / 2)).map fun k=>ns.getD (2 * k) 0).map V.int by rw[List.map_map];rfl] at h;have inj:∀ {a b:Li0},a.map V.int=b.map V.int->a=b:=fun {a b} h=>List.map_inj_right (fun _ _ q=>by cases q;rfl) |>.mp h;rw[xh,inj h,List.map_map];rfl
theorem pk1 (ns:Li0):pk (ns.map D.int) (some 1) none (some 2)=(List.range (ns.length / 2)).map fun k=>D.int (ns.getD (2 * k + 1) 0):=by
 have h:=L_ ns;have e:kN (ns.map V.int) (some 1) none (some 2)=(pk ns (some 1) none (some 2)).map V.int:=xh V.int ns _ _ _;rw[e,show (List.range (ns.length / 2)).map (fun k=>V.int (ns.getD (2 * k + 1) 0))=((List.range (ns.length / 2)).map fun k=>ns.getD (2 * k + 1) 0).map V.int by rw[List.map_map];rfl] at h;have inj:∀ {a b:Li0},a.map V.int=b.map V.int->a=b:=fun {a b} h=>List.map_inj_right (fun _ _ q=>by cases q;rfl) |>.mp h;rw[xh,inj h,List.map_map];rfl
noncomputable def kO (ns:Li0):List D:=(List.range (ns.length / 2)).map fun j=>.tup [.int (ns.getD (2 * j) 0),.int (ns.getD (2 * j + 1) 0)]
theorem CI (ns:Li0):g_ ((List.range ((ns.length + 1) / 2)).map fun k=>D.int (ns.getD (2 * k) 0)) ((List.range (ns.length / 2)).map fun k=>D.int (ns.getD (2 * k + 1) 0))=kO ns:=by
 refine List.ext_getElem? fun i=>?_;unfold g_ kO;by_cases h:i < ns.length / 2
 ·rw[List.getElem?_map,List.getElem?_map,List.getElem?_range h];have:((List.map (fun k=>D.int (ns.getD (2 * k) 0)) (List.range ((ns.length + 1) / 2))).zip (List.map (fun k=>D.int (ns.getD (2 * k + 1) 0)) (List.range (ns.length / 2))))[i]?=some (D.int (ns.getD (2 * i) 0),D.int (ns.getD (2 * i + 1) 0)):=by
   rw[List.getElem?_zip_eq_some];exact⟨by rw[List.getElem?_map,List.getElem?_range (by omega)];rfl,by rw[List.getElem?_map,List.getElem?_range h];rfl⟩
  rw[this];rfl
 ·rw[List.getElem?_eq_none (by simp;omega),List.getElem?_eq_none (by simp;omega)]
section
variable {P:Program} {w:World} {K:Fg0} {mg:SV} {base:Heap} {a:Ad}
noncomputable def whD (d:D) (lo hi:Int):Bool:=match d with
 | .int i=>decide (lo<=i) && decide (i<=hi)
 | _=>false
def GJ:S3:=fun Γ Q=>∃ (d:D) (lo hi:Int),Γ=[some (.fz d),some (.fz (.int lo)),some (.fz (.int hi))]/\knD d=true/\Q (.fz (.bl (whD d lo hi))) Γ
theorem cQ (T:Txt K mg a):aG P w K mg base CX0 1 a.uJ a.qM ["thing","low","high"] (sp3 K 3 GJ):=by
 refine ok3 T.aM.F yT (hbody:=fun cdv A outer s H E hr=>⟨_,_,(ai (bh (P3W.pt (nD (bS (aE (Nf T.ty) (by rfl) T.z_isinstance (by decide +kernel) (aa (bv 0) (aa (P3.opd (vR (n:="bool") (by rfl) T.z_bool (by decide +kernel))) ab)))) (l4 (bU (bS (aE (Nd T.ty) (by rfl) T.z_isinstance (by decide +kernel) (aa (bv 0) (aa (P3.opd (vR (n:="int") (by rfl) T.z_int (by decide +kernel))) ab)))))))) (ak (av kP)) aR)
   (ak (av (ET z7 z7 (bv 1) (bv 0) (bv 2))))),fun Γa Q h hl=>?_⟩)
 obtain⟨d,lo,hi,rfl,hk,q⟩:=h;cases d <;> (try cases hk) <;> walk_at "n5" <;> (try exact q)
 rename_i i;by_cases h:lo<=i
 ·simp only[yd,h,decide_true];simpa only[whD,h,decide_true,Bool.true_and] using q
 ·simp only[yd,h,decide_false];simpa only[whD,h,decide_false,Bool.false_and] using q
def E5:S3:=fun Γ Q=>∃ (d:D),Γ=[some (.fz d)]/\knD d=true/\Q (.fz (.bl (whD d (-999999999999999) 999999999999999))) Γ
theorem xo (T:Txt K mg a):aG P w K mg base CX0 2 a.qS a.oV ["thing"] (sp3 K 1 E5):=by
 refine ok3 T.hV.F wX (hbody:=fun cdv A outer s H E hr=>⟨_,_,(ak (av (au (by rfl) (cQ T) hr.dn (by rfl) T.aM.m T.aM.F.kp T.aM.b (aa (P3.opd (p3v 0)) (aa (P3.opd (iO (P3.opd (iu (i:=999999999999999) (by rfl) T.nc)))) (aa (P3.opd (iu (i:=999999999999999) (by rfl) T.nc)) ab)))))),fun Γa Q h hl=>?_⟩);obtain⟨d,rfl,hk,q⟩:=h;walk_at "n5";exact⟨d,_,_,rfl,hk,q⟩
theorem GK {n:Int} (h:-1000000000000000 < n/\n < 1000000000000000):whD (.int n) (-999999999999999) 999999999999999=true:=by
 simp only[whD,Bool.and_eq_true,decide_eq_true_eq];omega
def LP:S3:=fun Γ Q=>∃ (ns:Li0) (least:Int),Γ=[some (.fz (il ns)),some (.fz (.int least))]/\Fig ns/\ns.length<=64/\least<=(ns.length:Int)/\Q (.fz (.bl true)) Γ
theorem vU (T:Txt K mg a):aG P w K mg base CX0 3 a.zM a.wk ["thing","least"] (sp3 K 2 LP):=by
 refine ok3 T.gx.F CT (hbody:=fun cdv A outer s H E hr=>⟨_,_,(ai (bh (P3W.pt (nD (bU (bS (aE (JL T.ty) (by rfl) T.z_isinstance (by decide +kernel) (aa (bv 0) (aa (P3.opd (vR (n:="list") (by rfl) T.z_list (by decide +kernel))) ab))))) (l4 (bU (C8 z7 z7 (bv 1) (P3.opd (aE (dJ (by rfl)) (by rfl) T.z_len (by decide +kernel) (aa (bv 0) ab))) (P3.opd (iu (i:=64) (by rfl) T.lM))))))) (ak (av kP)) aR)
   (ak (av (aE (Gm (by rfl) rfl) (by rfl) T.z_all (by decide +kernel) (aa (P3.opd (bC rfl (cf (by rfl) (p3v 0)) pO (fun _ _ _ _ _=>(aQ (i:=0) pO.nd rfl (Or.inl rfl))) (fun _ _ _ _ _=>(au (by rfl) (xo T) hr.dn (by rfl) T.hV.m T.hV.F.kp T.hV.b (aa (P3.opd (p3v 0)) ab))))) ab))))),fun Γa Q h hl=>?_⟩)
 obtain⟨ns,least,rfl,hf,h1,h2,q⟩:=h;walk_at "n5";rw[lM0,show yd least (ns.length:Int)=true by simp only[yd,h2,decide_true],show yd (ns.length:Int) 64=true by simp only[yd,decide_eq_true_eq];omega];walk_at "n5";refine⟨small (by rw[lM0];omega),aS (fun k ys Γc=>ys=(List.range k).map (fun _=>D.bl true)/\∃ s,Γc=[fo s]) ⟨rfl,none,rfl⟩ ?_ ?_⟩
 ·rintro k d ys Γc hd hk ⟨rfl,s,rfl⟩;obtain⟨lt,rfl⟩:=ints_get hd;walk_at "n5";refine⟨_,rfl,rfl,?_⟩;rw[GK (Ii hf lt)];walk_at "n5";exact⟨snoc rfl,some _,rfl⟩
 ·rintro ys Γc hk ⟨rfl,s,rfl⟩;walk_at "n5";refine⟨(List.range ns.length).map fun _=>true,by rw[lM0,List.map_map];rfl,?_⟩;have:((List.range ns.length).map fun _=>true).all id=true:=by simp
  rw[this];exact q
def MS (f:Int->Int->Int):S3:=fun Γ Q=>∃ (d:D) (x y:Int),Γ=[some (.fz d),some (.fz (.int x)),some (.fz (.int y))]/\Q (.fz (.int (f x y))) Γ
def MT (f:Int->Int):S3:=fun Γ Q=>∃ (d:D) (x:Int),Γ=[some (.fz d),some (.fz (.int x))]/\Q (.fz (.int (f x))) Γ
theorem mj (T:Txt K mg a):aG P w K mg base CX0 1 a.cy a.fQ ["self","first","second"] (sp3 K 3 (MS fun x y=>x + y)):=by
 refine ok3 T.gz.F mh (hbody:=fun cdv A outer s H E hr=>⟨_,_,(ak (av (aH (bv 1) (bv 2)))),fun Γa Q h hl=>?_⟩);obtain⟨d,x,y,rfl,q⟩:=h;walk_at "n5";exact q
theorem ml (T:Txt K mg a):aG P w K mg base CX0 1 a.cz a.fR ["self","number"] (sp3 K 2 (MT fun x=>2 * x)):=by
 refine ok3 T.gA.F mi (hbody:=fun cdv A outer s H E hr=>⟨_,_,(ak (av (ed (P3.opd af) (bv 1)))),fun Γa Q h hl=>?_⟩);obtain⟨d,x,rfl,q⟩:=h;walk_at "n5";exact⟨.inl ⟨by decide,by decide⟩,q⟩
theorem eC (T:Txt K mg a):aG P w K mg base CX0 1 a.b9 a.eE ["self","first","second"] (sp3 K 3 (MS fun x y=>(x + y) / 2)):=by
 refine ok3 T.cI.F kb (hbody:=fun cdv A outer s H E hr=>⟨_,_,(ak (av (bM (P3.opd (aH (bv 1) (bv 2))) (P3.opd af)))),fun Γa Q h hl=>?_⟩);obtain⟨d,x,y,rfl,q⟩:=h;walk_at "n5";exact⟨⟨by decide,by decide⟩,q⟩
theorem eD (T:Txt K mg a):aG P w K mg base CX0 1 a.b_ a.eF ["self","number"] (sp3 K 2 (MT fun x=>x)):=by
 refine ok3 T.cJ.F kc (hbody:=fun cdv A outer s H E hr=>⟨_,_,(ak (av (tW 1))),fun Γa Q h hl=>?_⟩);obtain⟨d,x,rfl,q⟩:=h;walk_at "n5";exact q
noncomputable def nrF (ns:Li0) (k:Int):Int:=ns.getD (fmin (fmax k 0) ((ns.length:Int) - 1)).toNat 0
def KU:S3:=fun Γ Q=>∃ (ns:Li0) (k:Int),Γ=[some (.fz (il ns)),some (.fz (.int k))]/\1<=ns.length/\Q (.fz (.int (nrF ns k))) Γ
theorem oy (T:Txt K mg a):aG P w K mg base CX0 1 a.FG a.Cn ["numbers","at"] (sp3 K 2 KU):=by
 refine ok3 T.da.F G1 (hbody:=fun cdv A outer s H E hr=>⟨_,_,(ak (av (aO (by rfl) (bv 0) (P3.opd (aE (Gi rfl) (by rfl) T.z_min (by decide +kernel) (aa (P3.opd (aE (Gj rfl) (by rfl) T.z_max (by decide +kernel) (aa (bv 1) (aa (P3.opd af) ab)))) (aa (P3.opd (cP (P3.opd (aE (dJ (by rfl)) (by rfl) T.z_len (by decide +kernel) (aa (bv 0) ab))) (P3.opd af))) ab)))) (fun _ _=>rfl)))),fun Γa Q h hl=>?_⟩);obtain⟨ns,k,rfl,h1,q⟩:=h;walk_at "n5";rw[lM0];exact b8.mpr ⟨_,Cz (by simp only[fmin,fmax];split <;> split <;> omega) (by simp only[fmin,fmax];split <;> split <;> omega),q⟩
def Hy:S3:=fun Γ Q=>∃ (ns:Li0),Γ=[some (.fz (il ns))]/\ns.length<=64/\Q (.fr (.lst (kO ns))) Γ
theorem qF (T:Txt K mg a):aG P w K mg base CX0 1 a.uI a.qK ["row"] (sp3 K 1 Hy):=by
 refine ok3 T.dr.F yS (hbody:=fun cdv A outer s H E hr=>⟨_,_,(ak (av (AE rfl (by rfl) T.z_list (by rfl) T.z_zip (aa (P3.opd (gm (by rfl) (bv 0) (aX (P3.opd af)) bp (aX (P3.opd af)))) (aa (P3.opd (gm (by rfl) (bv 0) (aX (P3.opd af)) bp (aX (P3.opd af)))) ab))))),fun Γa Q h hl=>?_⟩);obtain⟨ns,rfl,h1,q⟩:=h;walk_at "n5";refine⟨by decide,by decide,?_,?_⟩
 ·rw[pk0,pk1];simp only[lM0,List.length_range,sizeLine_eq];omega
 ·rw[pk0,pk1,CI];exact q
noncomputable def rg (f:Nat->Int) (k:Nat):Li0:=(List.range k).map f
noncomputable def i8 (ns:Li0):Li0:=rg (fun j=>ns.getD (2 * j) 0 - ns.getD (2 * j + 1) 0) (ns.length / 2)
def HV (f:Li0->Li0):S3:=fun Γ Q=>∃ (ns:Li0),Γ=[some (.fz (il ns))]/\ns.length<=64/\Q (.fr (il (f ns))) Γ
theorem t7 (T:Txt K mg a):aG P w K mg base CX0 2 a.wu a.uH ["row"] (sp3 K 1 (HV i8)):=by
 refine ok3 T.eK.F Au (hbody:=fun cdv A outer s H E hr=>⟨_,_,(ak (av (bC rfl (cf (by rfl) (au (by rfl) (qF T) hr.dn (by rfl) T.dr.m T.dr.F.kp T.dr.b (aa (P3.opd (p3v 0)) ab))) iX (fun _ _ _ _ _=>(fL (is:=[0,1]) (by rfl) (aJ (aP (i:=0) iX.nd rfl (Or.inl rfl)) (aJ (aP (i:=1) iX.nd rfl (Or.inl rfl)) bZ)) rfl)) (fun _ _ _ _ _=>(cP (bv 0) (bv 1)))))),fun Γa Q h hl=>?_⟩);obtain⟨ns,rfl,h1,q⟩:=h;walk_at "n5";refine⟨ns,rfl,h1,?_⟩;walk_at "n5";refine⟨small (by simp only[kO,lM0,List.length_range];omega),aS (fun k ys Γc=>ys=(List.range k).map (fun j=>D.int (ns.getD (2 * j) 0 - ns.getD (2 * j + 1) 0))/\∃ s s',Γc=[fo s,fo s']) ⟨rfl,none,none,rfl⟩ ?_ ?_⟩
 ·rintro k d ys Γc hd hk ⟨rfl,s,s',rfl⟩;obtain⟨lt,rfl⟩:=xG hd;walk_at "n5";exact⟨snoc rfl,some _,some _,rfl⟩
 ·rintro ys Γc hk ⟨rfl,s,s',rfl⟩;walk_at "n5";simp only[kO,lM0,List.length_range];rw[jV];exact q
inductive Rl where
 | sum | half | guess | lean
noncomputable def Rl.cls (a:Ad):Rl->Addr
 | .sum=>a.bz | .half=>a.aT | .guess=>a.aL | .lean=>a.aK
noncomputable abbrev Rl.ob (a:Ad) (R:Rl):D:=.ins (R.cls a) [] []
noncomputable def cp (p:Int->Int->Int) (l:Int->Int) (ns:Li0):Li0:=rg (fun j=>p (ns.getD (2 * j) 0) (ns.getD (2 * j + 1) 0)) (ns.length / 2)++(if ns.length % 2=1 then [l (ns.getD (ns.length - 1) 0)] else [])
noncomputable def Rl.pair:Rl->Int->Int->Int
 | .sum=>fun x y=>x + y | _=>fun x y=>(x + y) / 2
noncomputable def Rl.kg:Rl->Int->Int
 | .sum=>fun x=>2 * x | _=>fun x=>x
def J5 (a:Ad):S3:=fun Γ Q=>∃ (R:Rl) (ns:Li0),Γ=[some (.fz (R.ob a)),some (.fz (il ns))]/\R≠.guess/\2<=ns.length/\ns.length<=64/\Q (.fr (il (cp R.pair R.kg ns))) Γ
theorem dC (f:Nat->Int) (k:Nat):(rg f k).length=k:=by unfold rg;simp
theorem fH (T:Txt K mg a):aG P w K mg base CX0 2 a.cm a.jZ ["self","row"] (sp3 K 2 (J5 a)):=by
 refine ok3 T.dR.F jU (hbody:=fun cdv A outer s H E hr=>⟨_,_,(ai (dA (i:=2) jU.nd rfl rfl rfl (cf (by rfl) (au (by rfl) (qF T) hr.dn (by rfl) T.dr.m T.dr.F.kp T.dr.b (aa (P3.opd (p3v 1)) ab))) dE (fun _ _ _ _ _=>(fL (is:=[0,1]) (by rfl) (aJ (aP (i:=0) dE.nd rfl (Or.inl rfl)) (aJ (aP (i:=1) dE.nd rfl (Or.inl rfl)) bZ)) rfl)) (fun _ _ _ _ _=>(P3.or (bB (by rfl) (bv 2) T.ma T.mm (mj T) hr.dn T.gz.b (aa (P3.opd (p3v 0)) (aa (P3.opd (p3v 1)) ab))) (P3.or (bB (by rfl) (bv 2) T.gr T.ke (eC T) hr.dn T.cI.b (aa (P3.opd (p3v 0)) (aa (P3.opd (p3v 1)) ab))) (bB (by rfl) (bv 2) T.eV T.jJ (eC T) hr.dn T.cI.b (aa (P3.opd (p3v 0)) (aa (P3.opd (p3v 1)) ab)))))))
   (ai (bh (aU uU (P3.opd (aE (dJ (by rfl)) (by rfl) T.z_len (by decide +kernel) (aa (bv 1) ab))) (P3.opd (ed (P3.opd af) (P3.opd (aE (dJ (by rfl)) (by rfl) T.z_len (by decide +kernel) (aa (bv 2) ab))))) (ba _)) (ak (fe (gn 2 (by rfl) (bv 2) (P3.or (bB (by rfl) (bv 0) T.ma T.mn (ml T) hr.dn T.gA.b (aa (P3.opd (aO (by rfl) (bv 1) (P3.opd (iO (P3.opd af))) (fun _ _=>rfl))) ab)) (P3.or (bB (by rfl) (bv 0) T.gr T.kf (eD T) hr.dn T.cJ.b (aa (P3.opd (aO (by rfl) (bv 1) (P3.opd (iO (P3.opd af))) (fun _ _=>rfl))) ab)) (bB (by rfl) (bv 0) T.eV T.jK (eD T) hr.dn T.cJ.b (aa (P3.opd (aO (by rfl) (bv 1) (P3.opd (iO (P3.opd af))) (fun _ _=>rfl))) ab))))))) aR)
   (ak (av (tW 2))))),fun Γa Q h hl=>?_⟩)
 obtain⟨R,ns,rfl,hR,h2,h1,q⟩:=h;walk_at "n5";refine⟨ns,rfl,h1,?_⟩;walk_at "n5";refine⟨small (by simp only[kO,lM0,List.length_range];omega),aS (fun k ys Γc=>ys=(List.range k).map (fun j=>D.int (R.pair (ns.getD (2 * j) 0) (ns.getD (2 * j + 1) 0)))/\∃ s s',Γc=[fo s,fo s',some (.fz (R.ob a))]) ⟨rfl,none,none,rfl⟩ ?_ ?_⟩
 ·rintro k d ys Γc hd hk ⟨rfl,s,s',rfl⟩;obtain⟨lt,rfl⟩:=xG hd;walk_at "n5";cases R with
  | guess=>exact absurd rfl hR
  | sum=>
   refine .inl ?_;walk_at "n5";refine⟨rfl,_,_,_,rfl,?_⟩;walk_at "n5";exact⟨snoc rfl,some _,some _,rfl⟩
  | half=>
   refine .inr (.inl ?_);walk_at "n5";refine⟨rfl,_,_,_,rfl,?_⟩;walk_at "n5";exact⟨snoc rfl,some _,some _,rfl⟩
  | lean=>
   refine .inr (.inr ?_);walk_at "n5";refine⟨rfl,_,_,_,rfl,?_⟩;walk_at "n5";exact⟨snoc rfl,some _,some _,rfl⟩
 ·rintro ys Γc hk ⟨rfl,s,s',rfl⟩;have hp:(kO ns).length=ns.length / 2:=by simp [kO]
  rw[hp,jV];walk_at "n5";refine⟨.inl ⟨by decide,by decide⟩,?_⟩;simp only[lM0,List.length_range];by_cases odd:ns.length % 2=1
  ·have e1:Bc (ns.length:Int) (2 * ((ns.length / 2:Nat):Int))=true:=by simp only[Bc,decide_eq_true_eq];omega
   have e2:cp R.pair R.kg ns=((List.range (ns.length / 2)).map fun j=>R.pair (ns.getD (2 * j) 0) (ns.getD (2 * j + 1) 0))++[R.kg (ns.getD (ns.length - 1) 0)]:=by
    unfold cp;rw[if_pos odd];rfl
   rw[e2,il,List.map_append] at q;rw[e1];walk_at "n5";cases R with
   | guess=>exact absurd rfl hR
   | sum=>
    refine .inl ⟨rfl,b8.mpr ⟨_,pV (by omega),?_⟩⟩;walk_at "n5";refine⟨_,_,rfl,?_⟩;walk_at "n5";exact⟨small (by simp only[lM0,List.length_range];omega),q⟩
   | half=>
    refine .inr (.inl ⟨rfl,b8.mpr ⟨_,pV (by omega),?_⟩⟩);walk_at "n5";refine⟨_,_,rfl,?_⟩;walk_at "n5";exact⟨small (by simp only[lM0,List.length_range];omega),q⟩
   | lean=>
    refine .inr (.inr ⟨rfl,b8.mpr ⟨_,pV (by omega),?_⟩⟩);walk_at "n5";refine⟨_,_,rfl,?_⟩;walk_at "n5";exact⟨small (by simp only[lM0,List.length_range];omega),q⟩
  ·have e1:Bc (ns.length:Int) (2 * ((ns.length / 2:Nat):Int))=false:=by simp only[Bc,decide_eq_false_iff_not];omega
   have e2:cp R.pair R.kg ns=((List.range (ns.length / 2)).map fun j=>R.pair (ns.getD (2 * j) 0) (ns.getD (2 * j + 1) 0)):=by
    unfold cp;rw[if_neg odd,List.append_nil];rfl
   rw[e2] at q;rw[e1];exact q
noncomputable def pB (F:Li0) (ns:Li0):Li0:=rg (fun j=>ns.getD (2 * j + 1) 0 - (F.getD j 0 + nrF F ((j:Int) + 1)) / 2) (ns.length / 2)
noncomputable def fsF (ns:Li0):Li0:=rg (fun j=>ns.getD (2 * j) 0) ((ns.length + 1) / 2)
noncomputable def gM (d:Li0) (j:Nat):Int:=(nrF d ((j:Int) - 1) + nrF d (j:Int) + 2) / 4
noncomputable def iR (s:Li0) (j:Nat):Int:=(nrF s ((j:Int) - 1) - nrF s ((j:Int) + 1) + 2) / 4
noncomputable def Rl.dif (R:Rl) (ns:Li0):Li0:=match R with
 | .sum=>i8 ns | .half=>i8 ns
 | .guess=>pB (fsF ns) ns
 | .lean=>rg (fun j=>(i8 ns).getD j 0 - iR (cp Rl.lean.pair Rl.lean.kg ns) j) (ns.length / 2)
noncomputable def Rl.sums (R:Rl) (ns:Li0):Li0:=match R with
 | .guess=>rg (fun j=>(fsF ns).getD j 0 + gM (pB (fsF ns) ns) j) ((ns.length + 1) / 2)
 | R=>cp R.pair R.kg ns
theorem bj (i:Int) (n:Nat):(rng i n).length=n:=by unfold rng;simp
theorem xa {n k:Nat} {d:D} (h:(rng 0 n)[k]?=some d):k < n/\d=.int (k:Int):=by
 unfold rng at h;obtain⟨h1,h2⟩:=xG h;exact⟨h1,by rw[h2];simp⟩
noncomputable def gg (F:Li0) (j:Nat):Int:=(F.getD j 0 + nrF F ((j:Int) + 1)) / 2
def AU (f:Li0->Nat->Int) (ok:Nat->Nat->Prop):S3:=fun Γ Q=>∃ (F:Li0) (m:Nat),Γ=[some (.fz (il F)),some (.fz (.int m))]/\1<=F.length/\ok m F.length/\m<=64/\Q (.fr (il (rg (f F) m))) Γ
theorem AN (T:Txt K mg a):aG P w K mg base CX0 2 a.wt a.uG ["firsts","many"] (sp3 K 2 (AU gg (·<=·))):=by
 refine ok3 T.lU.F As (hbody:=fun cdv A outer s H E hr=>⟨_,_,(ak (av (bC rfl (bc (by rfl) T.z_range (ag (p3v 1) az)) ng (fun _ _ _ _ _=>(aQ (i:=0) ng.nd rfl (Or.inl rfl))) (fun _ _ _ _ _=>(bM (P3.opd (aH (P3.opd (aO (by rfl) (bv 1) (bv 0) (fun _ _=>rfl))) (P3.opd (au (by rfl) (oy T) hr.dn (by rfl) T.da.m T.da.F.kp T.da.b (aa (P3.opd (p3v 1)) (aa (P3.opd (aH (bv 0) (P3.opd af))) ab)))))) (P3.opd af)))))),fun Γa Q h hl=>?_⟩);obtain⟨F,m,rfl,h1,h2,h3,q⟩:=h;walk_at "n5";refine⟨by omega,by omega,small (by rw[bj];omega),aS (fun k ys Γc=>ys=(List.range k).map (fun j=>D.int (gg F j))/\∃ s,Γc=[fo s,some (.fz (il F))]) ⟨rfl,none,rfl⟩ ?_ ?_⟩
 ·rintro k d ys Γc hd hk ⟨rfl,s,rfl⟩;obtain⟨lt,rfl⟩:=xa hd;walk_at "n5";refine b8.mpr ⟨_,Cz (by omega) (by omega),?_⟩;walk_at "n5";refine⟨_,_,rfl,h1,?_⟩;walk_at "n5";exact⟨⟨by decide,by decide⟩,snoc (by rw[Int.toNat_natCast];rfl),some _,rfl⟩
 ·rintro ys Γc hk ⟨rfl,s,rfl⟩;walk_at "n5";rw[bj,Int.toNat_natCast,jV];exact q
theorem E2 (T:Txt K mg a):aG P w K mg base CX0 2 a.yb a.uD ["differences","many"] (sp3 K 2 (AU gM fun _ _=>True)):=by
 refine ok3 T.rZ.F D9 (hbody:=fun cdv A outer s H E hr=>⟨_,_,(ak (av (bC rfl (bc (by rfl) T.z_range (ag (p3v 1) az)) q_ (fun _ _ _ _ _=>(aQ (i:=0) q_.nd rfl (Or.inl rfl))) (fun _ _ _ _ _=>(bM (P3.opd (aH (P3.opd (aH (P3.opd (au (by rfl) (oy T) hr.dn (by rfl) T.da.m T.da.F.kp T.da.b (aa (P3.opd (p3v 1)) (aa (P3.opd (cP (bv 0) (P3.opd af))) ab)))) (P3.opd (au (by rfl) (oy T) hr.dn (by rfl) T.da.m T.da.F.kp T.da.b (aa (P3.opd (p3v 1)) (aa (P3.opd (p3v 0)) ab)))))) (P3.opd af))) (P3.opd af)))))),fun Γa Q h hl=>?_⟩);obtain⟨F,m,rfl,h1,h2,h3,q⟩:=h;walk_at "n5";refine⟨by omega,by omega,small (by rw[bj];omega),aS (fun k ys Γc=>ys=(List.range k).map (fun j=>D.int (gM F j))/\∃ s,Γc=[fo s,some (.fz (il F))]) ⟨rfl,none,rfl⟩ ?_ ?_⟩
 ·rintro k d ys Γc hd hk ⟨rfl,s,rfl⟩;obtain⟨lt,rfl⟩:=xa hd;walk_at "n5";refine⟨_,_,rfl,h1,?_⟩;walk_at "n5";refine⟨_,_,rfl,h1,?_⟩;walk_at "n5";exact⟨⟨by decide,by decide⟩,snoc rfl,some _,rfl⟩
 ·rintro ys Γc hk ⟨rfl,s,rfl⟩;walk_at "n5";rw[bj,Int.toNat_natCast,jV];exact q
theorem E4 (T:Txt K mg a):aG P w K mg base CX0 2 a.yc a.uE ["sums","many"] (sp3 K 2 (AU iR fun _ _=>True)):=by
 refine ok3 T.r8.F D_ (hbody:=fun cdv A outer s H E hr=>⟨_,_,(ak (av (bC rfl (bc (by rfl) T.z_range (ag (p3v 1) az)) rh (fun _ _ _ _ _=>(aQ (i:=0) rh.nd rfl (Or.inl rfl))) (fun _ _ _ _ _=>(bM (P3.opd (aH (P3.opd (cP (P3.opd (au (by rfl) (oy T) hr.dn (by rfl) T.da.m T.da.F.kp T.da.b (aa (P3.opd (p3v 1)) (aa (P3.opd (cP (bv 0) (P3.opd af))) ab)))) (P3.opd (au (by rfl) (oy T) hr.dn (by rfl) T.da.m T.da.F.kp T.da.b (aa (P3.opd (p3v 1)) (aa (P3.opd (aH (bv 0) (P3.opd af))) ab)))))) (P3.opd af))) (P3.opd af)))))),fun Γa Q h hl=>?_⟩);obtain⟨F,m,rfl,h1,h2,h3,q⟩:=h;walk_at "n5";refine⟨by omega,by omega,small (by rw[bj];omega),aS (fun k ys Γc=>ys=(List.range k).map (fun j=>D.int (iR F j))/\∃ s,Γc=[fo s,some (.fz (il F))]) ⟨rfl,none,rfl⟩ ?_ ?_⟩
 ·rintro k d ys Γc hd hk ⟨rfl,s,rfl⟩;obtain⟨lt,rfl⟩:=xa hd;walk_at "n5";refine⟨_,_,rfl,h1,?_⟩;walk_at "n5";refine⟨_,_,rfl,h1,?_⟩;walk_at "n5";exact⟨⟨by decide,by decide⟩,snoc rfl,some _,rfl⟩
 ·rintro ys Γc hk ⟨rfl,s,rfl⟩;walk_at "n5";rw[bj,Int.toNat_natCast,jV];exact q
theorem AL (T:Txt K mg a):aG P w K mg base CX0 2 a.yb a.uD ["differences","many"] (sp3 K 2 (rd2 (fun ns=>.ln (il ns)) (fun ns m=>0<=m/\1<=ns.length/\m<=64) fun ns m=>rg (gM ns) m.toNat)):=
 Jo ((E2 T).imp (ML fun Γ Q h=>by obtain⟨ns,m,rfl,⟨h0,h1,h2⟩,q⟩:=h;exact⟨ns,m.toNat,by rw[Int.toNat_of_nonneg h0],h1,trivial,by omega,q⟩))
theorem AM (T:Txt K mg a):aG P w K mg base CX0 2 a.yc a.uE ["sums","many"] (sp3 K 2 (rd2 (fun ns=>.ln (il ns)) (fun ns m=>0<=m/\1<=ns.length/\m<=64) fun ns m=>rg (iR ns) m.toNat)):=
 Jo ((E4 T).imp (ML fun Γ Q h=>by obtain⟨ns,m,rfl,⟨h0,h1,h2⟩,q⟩:=h;exact⟨ns,m.toNat,by rw[Int.toNat_of_nonneg h0],h1,trivial,by omega,q⟩))
noncomputable def seF (ns:Li0):Li0:=rg (fun j=>ns.getD (2 * j + 1) 0) (ns.length / 2)
theorem L8 (ns:Li0):pk (ns.map D.int) (some 0) none (some 2)=(fsF ns).map D.int:=by rw[pk0];unfold fsF rg;rw[List.map_map];rfl
theorem L7 (ns:Li0):pk (ns.map D.int) (some 1) none (some 2)=(seF ns).map D.int:=by rw[pk1];unfold seF rg;rw[List.map_map];rfl
theorem qr (ns:Li0):(fsF ns).length=(ns.length + 1) / 2:=dC _ _
theorem tJ (ns:Li0):(seF ns).length=ns.length / 2:=dC _ _
theorem jF (f:Nat->Int) {j k:Nat} (h:j < k):(rg f k).getD j 0=f j:=by unfold rg;simp [List.getD,h]
theorem DZ {p:Int->Int->Int} {l:Int->Int} (ns:Li0) (h:2<=ns.length):1<=(cp p l ns).length:=by
 unfold cp;rw[List.length_append,dC];omega
theorem nW (xs ys:Li0):(g_ (xs.map D.int) (ys.map D.int)).length=min xs.length ys.length:=by unfold g_;simp
theorem zip_get {xs ys:Li0} {k:Nat} {d:D} (h:(g_ (xs.map D.int) (ys.map D.int))[k]?=some d):k < xs.length/\k < ys.length/\d=.tup [.int (xs.getD k 0),.int (ys.getD k 0)]:=by
 have lt:=(gS0 h).1;rw[nW] at lt;have l1:k < xs.length:=by omega
 have l2:k < ys.length:=by omega
 unfold g_ at h;have:((xs.map D.int).zip (ys.map D.int))[k]?=some (D.int (xs.getD k 0),D.int (ys.getD k 0)):=by
  rw[List.getElem?_zip_eq_some];exact⟨by rw[List.getElem?_map,gE0 l1];simp [List.getD,l1],by rw[List.getElem?_map,gE0 l2];simp [List.getD,l2]⟩
 rw[List.getElem?_map,this] at h;cases h;exact⟨l1,l2,rfl⟩
def AD (a:Ad) (ok:Rl->Prop):S3:=fun Γ Q=>∃ (R:Rl) (ns:Li0),Γ=[some (.fz (R.ob a)),some (.fz (il ns))]/\ok R/\2<=ns.length/\ns.length<=64/\Q (.two ((R.sums ns).map .int) ((R.dif ns).map .int)) Γ
theorem kR (T:Txt K mg a):aG P w K mg base CX0 3 a.fj a.k9 ["self","row"] (sp3 K 2 (AD a fun R=>R=.sum\/R=.half)):=by
 refine ok3 T.iD.F tM (hbody:=fun cdv A outer s H E hr=>⟨_,_,(ak (av (EO (P3.or (bB (by rfl) (bv 0) T.ma T.rM (fH T) hr.dn T.dR.b (aa (P3.opd (p3v 1)) ab)) (bB (by rfl) (bv 0) T.gr T.oH (fH T) hr.dn T.dR.b (aa (P3.opd (p3v 1)) ab))) (au (by rfl) (t7 T) hr.dn (by rfl) T.eK.m T.eK.F.kp T.eK.b (aa (P3.opd (p3v 1)) ab))))),fun Γa Q h hl=>?_⟩);obtain⟨R,ns,rfl,hR,h2,h1,q⟩:=h;walk_at "n5";rcases hR with rfl | rfl
 ·refine .inl ⟨rfl,.sum,ns,rfl,by simp,h2,h1,?_⟩;walk_at "n5";refine⟨ns,rfl,h1,?_⟩;walk_at "n5";exact q
 ·refine .inr ⟨rfl,.half,ns,rfl,by simp,h2,h1,?_⟩;walk_at "n5";refine⟨ns,rfl,h1,?_⟩;walk_at "n5";exact q
theorem oB (T:Txt K mg a):aG P w K mg base CX0 3 a.eQ a.iz ["self","row"] (sp3 K 2 (AD a (·=.guess))):=by
 refine ok3 T.iZ.F cG (hbody:=fun cdv A outer s H E hr=>⟨_,_,(ai (Kc (i:=2) (j:=3) rfl cG.nd rfl rfl (by decide) (by rfl) (by rfl) (ag (gm (by rfl) (bv 1) (aX (P3.opd af)) bp (aX (P3.opd af))) (ag (gm (by rfl) (bv 1) (aX (P3.opd af)) bp (aX (P3.opd af))) az)) (by rfl))
   (ai (dA (i:=4) cG.nd rfl rfl rfl (um (by rfl) T.z_zip (ag (p3v 3) (ag (au (by rfl) (AN T) hr.dn (by rfl) T.lU.m T.lU.F.kp T.lU.b (aa (P3.opd (p3v 2)) (aa (P3.opd (aE (dJ (by rfl)) (by rfl) T.z_len (by decide +kernel) (aa (bv 3) ab))) ab))) az))) cS (fun _ _ _ _ _=>(fL (is:=[0,1]) (by rfl) (aJ (aP (i:=0) cS.nd rfl (Or.inl rfl)) (aJ (aP (i:=1) cS.nd rfl (Or.inl rfl)) bZ)) rfl)) (fun _ _ _ _ _=>(cP (bv 0) (bv 1))))
   (ai (dA (i:=5) cG.nd rfl rfl rfl (um (by rfl) T.z_zip (ag (p3v 2) (ag (au (by rfl) (AL T) hr.dn (by rfl) T.rZ.m T.rZ.F.kp T.rZ.b (aa (bv 4) (aa (P3.opd (aE (dJ (by rfl)) (by rfl) T.z_len (by decide +kernel) (aa (bv 2) ab))) ab))) az))) cT (fun _ _ _ _ _=>(fL (is:=[0,1]) (by rfl) (aJ (aP (i:=0) cT.nd rfl (Or.inl rfl)) (aJ (aP (i:=1) cT.nd rfl (Or.inl rfl)) bZ)) rfl)) (fun _ _ _ _ _=>(aH (bv 0) (bv 1))))
   (ak (av (EO (tW 5) (tW 4))))))),fun Γa Q h hl=>?_⟩)
 obtain⟨R,ns,rfl,hR,h2,h1,q⟩:=h;walk_at "n5";subst hR;refine⟨by decide,by decide,?_⟩;rw[L8,L7];refine⟨fsF ns,ns.length / 2,by rw[lM0,tJ],by rw[qr];omega,by rw[qr];omega,by omega,?_⟩;walk_at "n5";have z1:(g_ ((seF ns).map D.int) ((rg (gg (fsF ns)) (ns.length / 2)).map D.int)).length=ns.length / 2:=by rw[nW,tJ,dC];omega
 refine⟨small (by rw[z1];omega),aS (fun k ys Γc=>ys=(List.range k).map (fun j=>D.int (ns.getD (2 * j + 1) 0 - gg (fsF ns) j))/\∃ s s',Γc=[fo s,fo s']) ⟨rfl,none,none,rfl⟩ ?_ ?_⟩
 ·rintro k d ys Γc hd hk ⟨rfl,s,s',rfl⟩;obtain⟨l1,l2,rfl⟩:=zip_get hd;rw[tJ] at l1;walk_at "n5";exact⟨snoc (by unfold seF;rw[jF _ l1,jF _ l1]),some _,some _,rfl⟩
 ·rintro ys Γc hk ⟨rfl,s,s',rfl⟩;rw[z1,jV];have z2:(pB (fsF ns) ns).length=ns.length / 2:=dC _ _;walk_at "n5";refine⟨pB (fsF ns) ns,(((ns.length + 1) / 2:Nat):Int),by rw[lM0,qr];rfl,⟨by omega,by omega,by omega⟩,?_⟩;walk_at "n5";rw[Int.toNat_natCast];have z3:(g_ ((fsF ns).map D.int) ((rg (gM (pB (fsF ns) ns)) ((ns.length + 1) / 2)).map D.int)).length=(ns.length + 1) / 2:=by rw[nW,qr,dC];omega
  refine⟨small (by rw[z3];omega),aS (fun k ys Γc=>ys=(List.range k).map (fun j=>D.int ((fsF ns).getD j 0 + gM (pB (fsF ns) ns) j))/\∃ s s',Γc=[fo s,fo s']) ⟨rfl,none,none,rfl⟩ ?_ ?_⟩
  ·rintro k d ys Γc hd hk ⟨rfl,s,s',rfl⟩;obtain⟨l1,l2,rfl⟩:=zip_get hd;rw[dC] at l2;walk_at "n5";exact⟨snoc (by rw[jF _ l2]),some _,some _,rfl⟩
  ·rintro ys Γc hk ⟨rfl,s,s',rfl⟩;rw[z3,jV];walk_at "n5";exact q
theorem oA (T:Txt K mg a):aG P w K mg base CX0 3 a.eP a.iy ["self","row"] (sp3 K 2 (AD a (·=.lean))):=by
 refine ok3 T.iY.F iq (hbody:=fun cdv A outer s H E hr=>⟨_,_,(ai (G4 (i:=2) (j:=3) rfl iq.nd rfl rfl (by decide) (by rfl) (by rfl) (bB (by rfl) (bv 0) T.eV T.nG (fH T) hr.dn T.dR.b (aa (P3.opd (p3v 1)) ab)) (au (by rfl) (t7 T) hr.dn (by rfl) T.eK.m T.eK.F.kp T.eK.b (aa (P3.opd (p3v 1)) ab)) (by rfl))
   (ak (av (Hz 2 (bv 2) (bC rfl (um (by rfl) T.z_zip (ag (p3v 3) (ag (au (by rfl) (AM T) hr.dn (by rfl) T.r8.m T.r8.F.kp T.r8.b (aa (bv 2) (aa (P3.opd (aE (dJ (by rfl)) (by rfl) T.z_len (by decide +kernel) (aa (bv 3) ab))) ab))) az))) cR (fun _ _ _ _ _=>(fL (is:=[0,1]) (by rfl) (aJ (aP (i:=0) cR.nd rfl (Or.inl rfl)) (aJ (aP (i:=1) cR.nd rfl (Or.inl rfl)) bZ)) rfl)) (fun _ _ _ _ _=>(cP (bv 0) (bv 1)))))))),fun Γa Q h hl=>?_⟩)
 obtain⟨R,ns,rfl,hR,h2,h1,q⟩:=h;walk_at "n5";subst hR;refine⟨rfl,.lean,ns,rfl,by simp,h2,h1,?_⟩;walk_at "n5";refine⟨ns,rfl,h1,?_⟩;walk_at "n5";have hg:(i8 ns).length=ns.length / 2:=dC _ _;refine⟨_,((ns.length / 2:Nat):Int),by rw[lM0,hg],⟨by omega,DZ ns h2,by omega⟩,?_⟩;walk_at "n5";rw[Int.toNat_natCast];have z1:(g_ ((i8 ns).map D.int) ((rg (iR (cp Rl.lean.pair Rl.lean.kg ns)) (ns.length / 2)).map D.int)).length=ns.length / 2:=by rw[nW,hg,dC];omega
 refine⟨small (by rw[z1];omega),aS (fun k ys Γc=>ys=(List.range k).map (fun j=>D.int ((i8 ns).getD j 0 - iR (cp Rl.lean.pair Rl.lean.kg ns) j))/\∃ s s',Γc=[fo s,fo s']) ⟨rfl,none,none,rfl⟩ ?_ ?_⟩
 ·rintro k d ys Γc hd hk ⟨rfl,s,s',rfl⟩;obtain⟨l1,l2,rfl⟩:=zip_get hd;rw[dC] at l2;walk_at "n5";exact⟨snoc (by rw[jF _ l2]),some _,some _,rfl⟩
 ·rintro ys Γc hk ⟨rfl,s,s',rfl⟩;rw[z1,jV];walk_at "n5";exact⟨_,rfl,q⟩
def Fw (a:Ad):S3:=fun Γ Q=>∃ (R:Rl) (ns:Li0),Γ=[some (.fz (R.ob a)),some (.fz (il ns))]/\Fig ns/\2<=ns.length/\ns.length<=64/\Q (.two ((R.sums ns).map .int) ((R.dif ns).map .int)) Γ
theorem ee (T:Txt K mg a):aG P w K mg base CX0 4 a.cE a.k_ ["self","row"] (sp3 K 2 (Fw a)):=by
 refine ok3 T.de.F tN (hbody:=fun cdv A outer s H E hr=>⟨_,_,(ai (bh (bU (bS (au (by rfl) (vU T) hr.dn (by rfl) T.gx.m T.gx.F.kp T.gx.b (aa (P3.opd (p3v 1)) (aa (P3.opd af) ab))))) (ak cO) aR)
   (ak (av (P3.or (bB (by rfl) (bv 0) T.ma T.uf (kR T) hr.dn T.iD.b (aa (P3.opd (p3v 1)) ab)) (P3.or (bB (by rfl) (bv 0) T.gr T.qh (kR T) hr.dn T.iD.b (aa (P3.opd (p3v 1)) ab)) (P3.or (bB (by rfl) (bv 0) T.nL T.oJ (oB T) hr.dn T.iZ.b (aa (P3.opd (p3v 1)) ab)) (bB (by rfl) (bv 0) T.eV T.oF (oA T) hr.dn T.iY.b (aa (P3.opd (p3v 1)) ab)))))))),fun Γa Q h hl=>?_⟩)
 obtain⟨R,ns,rfl,hR,h2,h1,q⟩:=h;walk_at "n5";refine⟨ns,2,rfl,hR,h1,by omega,?_⟩;walk_at "n5";cases R with
 | sum=>exact .inl ⟨rfl,.sum,ns,rfl,.inl rfl,h2,h1,q⟩
 | half=>exact .inr (.inl ⟨rfl,.half,ns,rfl,.inr rfl,h2,h1,q⟩)
 | guess=>exact .inr (.inr (.inl ⟨rfl,.guess,ns,rfl,rfl,h2,h1,q⟩))
 | lean=>exact .inr (.inr (.inr ⟨rfl,.lean,ns,rfl,rfl,h2,h1,q⟩))
noncomputable def Rl.num:Rl->Nat
 | .sum=>0 | .half=>1 | .guess=>2 | .lean=>3
noncomputable def Rl.word:Rl->Str
 | .sum=>"sum" | .half=>"half" | .guess=>"guess" | .lean=>"lean"
def wM (x:Str):S3:=fun Γ Q=>∃ d,Γ=[some (.fz d)]/\Q (.fz (.str x)) Γ
theorem xy (T:Txt K mg a):aG P w K mg base CX0 1 a.lF a.o8 ["self"] (sp3 K 1 (wM "sum")):=by
 refine ok3 T.qA.F w6 (hbody:=fun cdv A outer s H E hr=>⟨_,_,(ak (av bF)),fun Γa Q h hl=>?_⟩);obtain⟨d,rfl,q⟩:=h;walk_at "n5";exact q
theorem ua (T:Txt K mg a):aG P w K mg base CX0 1 a.iU a.lA ["self"] (sp3 K 1 (wM "half")):=by
 refine ok3 T.mJ.F tQ (hbody:=fun cdv A outer s H E hr=>⟨_,_,(ak (av bF)),fun Γa Q h hl=>?_⟩);obtain⟨d,rfl,q⟩:=h;walk_at "n5";exact q
theorem rK (T:Txt K mg a):aG P w K mg base CX0 1 a.gW a.j1 ["self"] (sp3 K 1 (wM "guess")):=by
 refine ok3 T.kl.F rB (hbody:=fun cdv A outer s H E hr=>⟨_,_,(ak (av bF)),fun Γa Q h hl=>?_⟩);obtain⟨d,rfl,q⟩:=h;walk_at "n5";exact q
theorem rJ (T:Txt K mg a):aG P w K mg base CX0 1 a.gU a.j0 ["self"] (sp3 K 1 (wM "lean")):=by
 refine ok3 T.kj.F rA (hbody:=fun cdv A outer s H E hr=>⟨_,_,(ak (av bF)),fun Γa Q h hl=>?_⟩);obtain⟨d,rfl,q⟩:=h;walk_at "n5";exact q
def G7 (a:Ad):S3:=fun Γ Q=>Γ=[]/\Q (.fr (.lst [Rl.sum.ob a,Rl.half.ob a,Rl.guess.ob a,Rl.lean.ob a])) Γ
theorem xr (T:Txt K mg a):aG P w K mg base CX0 1 a.qV a.oY [] (sp3 K 0 (G7 a)):=by
 refine ok3 T.h9.F wZ (hbody:=fun cdv A outer s H E hr=>⟨_,_,(ak (av (dD (ag (l5 T.mk_Sums (by rfl) T.HS) (ag (l5 T.mk_Halves (by rfl) T.Dk) (ag (l5 T.mk_Guessed (by rfl) T.AY) (ag (l5 T.mk_Leaning (by rfl) T.AX) az))))))),fun Γa Q h hl=>?_⟩);obtain⟨rfl,q⟩:=h;walk_at "n5";exact⟨by rw[sizeLine_eq];omega,q⟩
def Kd (a:Ad):S3:=fun Γ Q=>∃ (R:Rl),Γ=[some (.fz (.str R.word))]/\Q (.fz (R.ob a)) Γ
theorem AK (T:Txt K mg a):aG P w K mg base CX0 2 a.wo a.uC ["word"] (sp3 K 1 (Kd a)):=by
 refine ok3 T.lT.F tK (hbody:=fun cdv A outer s H E hr=>⟨_,_,(ai (fG PassesOwn.never rfl (cf (by rfl) (EW (by rfl) (xr T) hr.dn (by rfl) T.h9.m T.h9.F.kp T.h9.b)) (aQ (i:=1) tK.nd rfl (Or.inl rfl))
   (ak (bh (aU (jP (by rfl) hr) (P3.opd (P3.or (aZ (by rfl) (bv 1) T.ma T.xC (xy T) hr.dn T.qA.b) (P3.or (aZ (by rfl) (bv 1) T.gr T.uj (ua T) hr.dn T.mJ.b) (P3.or (aZ (by rfl) (bv 1) T.nL T.rO (rK T) hr.dn T.kl.b) (aZ (by rfl) (bv 1) T.eV T.rN (rJ T) hr.dn T.kj.b))))) (bv 0) (ba _)) (ak (av (tW 1))) aR)))
   (ak cO)),fun Γa Q h hl=>?_⟩)
 obtain⟨R,rfl,q⟩:=h;walk_at "n5";refine⟨rfl,?_⟩;walk_at "n5";refine cB (fun k Γ=>k<=R.num/\∃ s,Γ=[some (.fz (.str R.word)),fo s]) ⟨Nat.zero_le _,none,rfl⟩ ?_ ?_
 ·rintro k d Γ hd ⟨hk,s,rfl⟩
  match k,hd with
  | 0,hd=>
   cases hd;walk_at "n5";refine .inl ⟨rfl,_,rfl,?_⟩;walk_at "n5";refine lQ (fun e=>?_) (fun e=>?_)
   ·have hR:R=.sum:=by cases R <;> first | rfl | exact absurd e (by decide +kernel)
    subst hR;walk_at "n5";exact q
   ·walk_at "n5";exact⟨by cases R <;> first | decide | exact absurd hk (by decide) | exact absurd e (by decide +kernel),some _,rfl⟩
  | 1,hd=>
   cases hd;walk_at "n5";refine .inr (.inl ⟨rfl,_,rfl,?_⟩);walk_at "n5";refine lQ (fun e=>?_) (fun e=>?_)
   ·have hR:R=.half:=by cases R <;> first | rfl | exact absurd e (by decide +kernel)
    subst hR;walk_at "n5";exact q
   ·walk_at "n5";exact⟨by cases R <;> first | decide | exact absurd hk (by decide) | exact absurd e (by decide +kernel),some _,rfl⟩
  | 2,hd=>
   cases hd;walk_at "n5";refine .inr (.inr (.inl ⟨rfl,_,rfl,?_⟩));walk_at "n5";refine lQ (fun e=>?_) (fun e=>?_)
   ·have hR:R=.guess:=by cases R <;> first | rfl | exact absurd e (by decide +kernel)
    subst hR;walk_at "n5";exact q
   ·walk_at "n5";exact⟨by cases R <;> first | decide | exact absurd hk (by decide) | exact absurd e (by decide +kernel),some _,rfl⟩
  | 3,hd=>
   cases hd;walk_at "n5";refine .inr (.inr (.inr ⟨rfl,_,rfl,?_⟩));walk_at "n5";refine lQ (fun e=>?_) (fun e=>?_)
   ·have hR:R=.lean:=by cases R <;> first | rfl | exact absurd e (by decide +kernel)
    subst hR;walk_at "n5";exact q
   ·walk_at "n5";exact⟨by cases R <;> first | decide | exact absurd hk (by decide) | exact absurd e (by decide +kernel),some _,rfl⟩
 ·rintro Γ ⟨hk,_⟩;cases R <;> exact absurd (show 4<=_ from hk) (by decide)
theorem MZ {i3:TI3} {g3:TG3} {b3:TS3} {D:E3} {Γ:G} {t1:Tag (i3,g3,b3)} {t2:Tag D}:Lf i3 g3 b3 D Γ t1 t2=(i3 Γ fun xs Γ1=>∃ Iv:Nat->G->Prop,Iv 0 Γ1/\(∀ k d Γ,xs[k]?=some d->Iv k Γ->g3 d Γ fun Γ'=>b3 { D with nx:=Iv (k + 1),ct:=Iv (k + 1),bk:=D.nx } Γ')/\∀ Γ,Iv xs.length Γ->D.nx Γ):=rfl
inductive Lt where
 | r | p | b
deriving DecidableEq
noncomputable def Lt.c:Lt->Nat
 | .r=>114 | .p=>112 | .b=>98
noncomputable def Lt.s (l:Lt):Str:=sgn l.c
theorem Lt.sr:Lt.s .r=("r":Str):=by decide +kernel
theorem Lt.sp:Lt.s .p=("p":Str):=by decide +kernel
theorem Lt.sb:Lt.s .b=("b":Str):=by decide +kernel
noncomputable def wy (ls:List Lt):Str:=⟨(ls.map Lt.c).toArray⟩
theorem kn (ls:List Lt):signs (wy ls)=ls.map fun l=>D.str l.s:=by
 unfold signs wy;rw[List.map_map]
 rfl
theorem Af (ls:List Lt):asc (wy ls)=true:=by
 unfold asc wy;rw[Array.all_eq_true_iff_forall_mem];intro x hx;simp only[List.mem_toArray,List.mem_map] at hx;obtain⟨l,_,rfl⟩:=hx;cases l <;> decide
theorem cx (ls:List Lt):(wy ls).length=ls.length:=by simp [Str.length,wy]
theorem Bx (ls:List Lt):(wy ls).cps.size=ls.length:=by simp [wy]
noncomputable def nh (l:Lt) (h:Int):Int:=if l=.r then h else (h + 1) / 2
noncomputable def nw (l:Lt) (w:Int):Int:=if l=.p then w else (w + 1) / 2
noncomputable def gZ (h w:Int):List Lt->List (Int×Int)
 | []=>[(h,w)]
 | l::ls=>(h,w)::gZ (nh l h) (nw l w) ls
theorem fv (h w:Int):∀ ls:List Lt,(gZ h w ls).length=ls.length + 1
 | []=>rfl
 | l::ls=>by rw[gZ,List.length_cons,fv];rfl
noncomputable def cD (c:Int×Int):D:=.tup [.int c.1,.int c.2]
def Can (l:Lt) (h w:Int):Prop:=(l≠.p->2<=w)/\(l≠.r->2<=h)
def Good (h w:Int):List Lt->Prop
 | []=>True
 | l::ls=>Can l h w/\Good (nh l h) (nw l w) ls
structure vz (h w:Int):Prop where
 h1:1<=h
 w1:1<=w
 h2:h<=64
 w2:w<=64
 m:h * w<=512
noncomputable def cat (h w:Int) (ls:List Lt) (k:Nat):Int×Int:=(gZ h w ls).getD k (0,0)
theorem Ct {h w:Int} {ls:List Lt} {k:Nat} (hk:k<=ls.length):(gZ h w ls)[k]?=some (cat h w ls k):=by
 unfold cat
 have:k < (gZ h w ls).length:=by rw[fv];omega
 rw[List.getD_eq_getElem?_getD,gE0 this];rfl
theorem FW {h w:Int} {ls:List Lt} {k:Nat} (hk:k<=ls.length):((gZ h w ls).map cD)[k]?=some (cD (cat h w ls k)):=by rw[List.getElem?_map,Ct hk];rfl
theorem uT (h w:Int) (ls:List Lt):cat h w ls 0=(h,w):=by cases ls <;> rfl
theorem zY {h w:Int} {l:Lt} {ls:List Lt} {k:Nat}:cat h w (l::ls) (k + 1)=cat (nh l h) (nw l w) ls k:=rfl
theorem uS:∀ {ls:List Lt} {h w:Int} {k:Nat} {l:Lt},ls[k]?=some l->cat h w ls (k + 1)=(nh l (cat h w ls k).1,nw l (cat h w ls k).2)
 | [],_,_,k,l,e=>by simp at e
 | l0::ls,h,w,0,l,e=>by
  have:l0=l:=by simpa using e
  subst this;rw[zY,uT,uT]
 | l0::ls,h,w,k + 1,l,e=>by
  rw[zY,zY];exact uS (by simpa using e)
theorem sM:∀ {ls:List Lt} {h w:Int} {k:Nat} {l:Lt},Good h w ls->ls[k]?=some l->Can l (cat h w ls k).1 (cat h w ls k).2
 | [],_,_,k,l,_,e=>by simp at e
 | l0::ls,h,w,0,l,g,e=>by
  have:l0=l:=by simpa using e
  subst this;rw[uT];exact g.1
 | l0::ls,h,w,k + 1,l,g,e=>by
  rw[zY];exact sM g.2 (by simpa using e)
theorem Ik {l:Lt} {h w:Int} (c:Can l h w) (h1:1<=h) (w1:1<=w):1<=nh l h/\1<=nw l w/\nh l h<=h/\nw l w<=w:=by
 cases l <;> simp [nh,nw] <;> omega
theorem yq:∀ {ls:List Lt} {h w:Int} {k:Nat},Good h w ls->1<=h->1<=w->k<=ls.length->1<=(cat h w ls k).1/\1<=(cat h w ls k).2/\(cat h w ls k).1<=h/\(cat h w ls k).2<=w
 | ls,h,w,0,_,h1,w1,_=>by rw[uT];exact⟨h1,w1,Int.le_refl _,Int.le_refl _⟩
 | [],_,_,k + 1,_,_,_,hk=>by simp at hk
 | l::ls,h,w,k + 1,g,h1,w1,hk=>by
  rw[zY];obtain⟨a,b,c,d⟩:=Ik g.1 h1 w1;obtain⟨a',b',c',d'⟩:=yq (k:=k) g.2 a b (by simpa using hk);exact⟨a',b',Int.le_trans c' c,Int.le_trans d' d⟩
theorem yF {h w:Int} {ls:List Lt} {k:Nat} (hk:k<=ls.length):atI ((gZ h w ls).map cD) (k:Int)=some (cD (cat h w ls k)):=a8 (by omega) (by rw[Int.toNat_natCast];exact FW hk)
theorem Iy {α:Type} {xs:List α} {d:α} (e:xs[xs.length - 1]?=some d):atI xs (-1)=some d:=by
 have lt:=(gS0 e).1;have e2:ixN xs.length (-1)=some (xs.length - 1):=by
  unfold ixN;rw[if_neg (by decide),if_pos (by omega)]
  congr 1
  omega
 unfold L2.atI;rw[e2];exact e
noncomputable abbrev plD (a:Ad) (R:Rl) (h w:Int) (ls:List Lt):D:=.ins a.aW ["chosen","corners","letters"] [R.ob a,.tup ((gZ h w ls).map cD),.str (wy ls)]
def M_:S3:=fun Γ Q=>∃ (l:Lt) (h w:Int),Γ=[some (.fz (.str l.s)),some (.fz (.int h)),some (.fz (.int w))]/\Can l h w/\Q (.fz (.bl true)) Γ
theorem MJ {l:Lt}:inV (V.str l.s) [V.str "r",V.str "b"]=!(l == .p):=by cases l <;> decide +kernel
theorem MK {l:Lt}:inV (V.str l.s) [V.str "p",V.str "b"]=!(l == .r):=by cases l <;> decide +kernel
noncomputable def N4 (neg:Bool) (x:D) (xs:List D):Bool:=if neg then !inV (toV x) (xs.map toV) else inV (toV x) (xs.map toV)
theorem Jr {l:Lt} {Γ:G} {Q:RV->G->Prop}:in3 false (.str l.s) (kt ["r","b"]) Γ Q=Q (.fz (.bl (!(l == .p)))) Γ:=by
 refine propext ⟨fun ⟨xs,h1,_,_,q⟩=>?_,fun q=>⟨_,rfl,rfl,rfl,?_⟩⟩
 ·have e:xs=[D.str "r",D.str "b"]:=(Option.some.inj h1).symm;subst e;have q:Q (.fz (.bl (inV (V.str l.s) [V.str "r",V.str "b"]))) Γ:=q;rw[MJ] at q;exact q
 ·show Q (.fz (.bl (inV (V.str l.s) [V.str "r",V.str "b"]))) Γ;rw[MJ];exact q
theorem Js {l:Lt} {Γ:G} {Q:RV->G->Prop}:in3 false (.str l.s) (kt ["p","b"]) Γ Q=Q (.fz (.bl (!(l == .r)))) Γ:=by
 refine propext ⟨fun ⟨xs,h1,_,_,q⟩=>?_,fun q=>⟨_,rfl,rfl,rfl,?_⟩⟩
 ·have e:xs=[D.str "p",D.str "b"]:=(Option.some.inj h1).symm;subst e;have q:Q (.fz (.bl (inV (V.str l.s) [V.str "p",V.str "b"]))) Γ:=q;rw[MK] at q;exact q
 ·show Q (.fz (.bl (inV (V.str l.s) [V.str "p",V.str "b"]))) Γ;rw[MK];exact q
theorem GC {α β:Type} {f:α->β} {xs:List α} {i:Int} {c:β} (e:atI (xs.map f) i=some c):∃ l,atI xs i=some l/\c=f l:=by
 unfold L2.atI at e ⊢;rw[lM0] at e;cases q:ixN xs.length i with
 | none=>rw[q] at e;cases e
 | some j=>
  rw[q] at e;have e:(xs.map f)[j]?=some c:=e;rw[List.getElem?_map] at e;cases z:xs[j]? with
  | none=>rw[z] at e;cases e
  | some l=>rw[z] at e;cases e;exact⟨l,z,rfl⟩
def JS (ls:List Lt) (i:Int) (k:Lt->Prop) (_:Tag k):Prop:=(wy ls).length<=sizeLine/\∃ l,atI ls i=some l/\k l
theorem Jq {ls:List Lt} {i:Int} {Γ:G} {Q:RV->G->Prop}:ix3 (.str (wy ls)) (.int i) Γ Q=JS ls i (fun l=>Q (.fz (.str l.s)) Γ) ⟨⟩:=by
 refine propext ⟨fun ⟨h1,c,h2,q⟩=>⟨h1,?_⟩,fun ⟨h1,l,h2,q⟩=>⟨h1,l.c,?_,q⟩⟩
 ·obtain⟨l,hl,rfl⟩:=GC (f:=Lt.c) (xs:=ls) (by simpa [wy] using h2);exact⟨l,hl,q⟩
 ·have:=yD (f:=Lt.c) h2;simpa [wy] using this
theorem atL {ls:List Lt} {k:Nat} {l:Lt} (h:ls[k]?=some l):atI ls (k:Int)=some l:=a8 (by omega) (by rw[Int.toNat_natCast];exact h)
theorem sEb {l:Lt}:(l.s == ("b":Str))=(l == .b):=by cases l <;> decide +kernel
theorem sEr {l:Lt}:(l.s == ("r":Str))=(l == .r):=by cases l <;> decide +kernel
theorem sEp {l:Lt}:(l.s == ("p":Str))=(l == .p):=by cases l <;> decide +kernel
theorem M6 {a b c d e f:D}:cut [a,b,c,d,e,f] (some 2) none=[c,d,e,f]:=rfl
theorem Mv:(("corners":Str) == ("chosen":Str))=false:=by decide +kernel
theorem Mt:(("letters":Str) == ("chosen":Str))=false:=by decide +kernel
theorem Mr:(("letters":Str) == ("corners":Str))=false:=by decide +kernel
theorem Mu:(("chosen":Str) == ("chosen":Str))=true:=by decide +kernel
theorem Mq:(("corners":Str) == ("corners":Str))=true:=by decide +kernel
theorem Ms:(("letters":Str) == ("letters":Str))=true:=by decide +kernel
theorem Jf:(Lt.r == Lt.r)=true:=rfl
theorem Jg:(Lt.r == Lt.p)=false:=rfl
theorem Jh:(Lt.p == Lt.r)=false:=rfl
theorem Ji:(Lt.p == Lt.p)=true:=rfl
theorem Jj:(Lt.b == Lt.r)=false:=rfl
theorem Jk:(Lt.b == Lt.p)=false:=rfl
def J9:S3:=fun Γ Q=>∃ h w:Int,Γ=[some (.fz (.int h)),some (.fz (.int w))]/\vz h w/\Q (.fz (.bl true)) Γ
theorem t6 (T:Txt K mg a):aG P w K mg base CX0 2 a.wq a.uF ["height","width"] (sp3 K 2 J9):=by
 refine ok3 T.eJ.F Ar (hbody:=fun cdv A outer s H E hr=>⟨_,_,(ai (bh (P3W.pt (nD (bU (bS (au (by rfl) (cQ T) hr.dn (by rfl) T.aM.m T.aM.F.kp T.aM.b (aa (P3.opd (p3v 0)) (aa (P3.opd af) (aa (P3.opd (iu (i:=64) (by rfl) T.lM)) ab)))))) (l4 (bU (bS (au (by rfl) (cQ T) hr.dn (by rfl) T.aM.m T.aM.F.kp T.aM.b (aa (P3.opd (p3v 1)) (aa (P3.opd af) (aa (P3.opd (iu (i:=64) (by rfl) T.lM)) ab))))))))) (ak (av kP)) aR)
   (ak (av (iP z7 (P3.opd (ed (bv 0) (bv 1))) (P3.opd (iu (i:=512) (by rfl) T.vw)) (ba _))))),fun Γa Q h hl=>?_⟩)
 obtain⟨h,w,rfl,⟨a1,a2,a3,a4,a5⟩,q⟩:=h;walk_at "n7";refine⟨_,_,_,rfl,rfl,?_⟩;rw[show whD (.int h) 1 64=true by simp only[whD,Bool.and_eq_true,decide_eq_true_eq];omega];walk_at "n7";refine⟨_,_,_,rfl,rfl,?_⟩;rw[show whD (.int w) 1 64=true by simp only[whD,Bool.and_eq_true,decide_eq_true_eq];omega];walk_at "n7";refine⟨.inl ⟨by omega,by omega⟩,?_⟩;rw[show yd (h * w) 512=true by simp only[yd,decide_eq_true_eq];exact a5];exact q
theorem xq (T:Txt K mg a):aG P w K mg base CX0 1 a.qU a.oX ["letter","height","width"] (sp3 K 3 M_):=by
 refine ok3 T.hZ.F wY (hbody:=fun cdv A outer s H E hr=>⟨_,_,(ai (bh (P3W.pt (BR (aU (q9 (by rfl)) (bv 0) (P3.opd (ir (p:=a.bL) (zs:=["r","b"]) (by rfl) T.gj)) (by with_unfolding_all rfl)) (y7 (aU Cu (bv 2) (P3.opd af) (ba _))))) (ak (av kP)) aR)
   (ai (bh (P3W.pt (BR (aU (q9 (by rfl)) (bv 0) (P3.opd (ir (p:=a.a_) (zs:=["p","b"]) (by rfl) T.dq)) (by with_unfolding_all rfl)) (y7 (aU Cu (bv 1) (P3.opd af) (ba _))))) (ak (av kP)) aR)
   (ak (av (Mh (iP (q9 (by rfl)) (bv 0) (P3.opd (ir (p:=a.bL) (zs:=["r","b"]) (by rfl) T.gj)) (by with_unfolding_all rfl)) (xl (iP (q9 (by rfl)) (bv 0) (P3.opd (ir (p:=a.a_) (zs:=["p","b"]) (by rfl) T.dq)) (by with_unfolding_all rfl)))))))),fun Γa Q h hl=>?_⟩)
 obtain⟨l,h,w,rfl,⟨c1,c2⟩,q⟩:=h;have e1:l≠.p->FH w 2=false:=fun z=>by have:=c1 z;simp only[FH,decide_eq_false_iff_not];omega
 have e2:l≠.r->FH h 2=false:=fun z=>by have:=c2 z;simp only[FH,decide_eq_false_iff_not];omega
 cases l
 ·walk_at "n7";rw[e1 (by decide)];walk_at "n7";exact q
 ·walk_at "n7";rw[e2 (by decide)];walk_at "n7";exact q
 ·walk_at "n7";rw[e1 (by decide)];walk_at "n7";rw[e2 (by decide)];walk_at "n7";exact q
def Lk:S3:=fun Γ Q=>∃ (h w:Int) (ls:List Lt),Γ=[some (.fz (.int h)),some (.fz (.int w)),some (.fz (.str (wy ls)))]/\Good h w ls/\ls.length<=10/\Q (.fz (.tup ((gZ h w ls).map cD))) Γ
theorem gq {h w:Int} {ls:List Lt} {k:Nat} (hk:k < ls.length):((gZ h w ls).take (k + 1)).map cD++[cD (cat h w ls (k + 1))]=((gZ h w ls).take (k + 2)).map cD:=by
 have e:(gZ h w ls).take (k + 1 + 1)=(gZ h w ls).take (k + 1)++[cat h w ls (k + 1)]:=by
  conv=>lhs;rw[List.take_succ]
  rw[Ct (by omega)];rfl
 show _=((gZ h w ls).take (k + 1 + 1)).map cD;rw[e,List.map_append];rfl
theorem xI {ls:List Lt} {k:Nat} {d:D} (h:(ls.map fun l=>D.str l.s)[k]?=some d):∃ l,ls[k]?=some l/\d=.str l.s:=by
 rw[List.getElem?_map] at h;cases q:ls[k]? with
 | none=>rw[q] at h;cases h
 | some l=>rw[q] at h;cases h;exact⟨l,rfl,rfl⟩
theorem gN {α:Type} {l:List α} {k:Nat} {a:α} (h:l[k]?=some a):k < l.length:=(gS0 h).1
theorem vg (T:Txt K mg a):aG P w K mg base CX0 2 a.ph a.mW ["height","width","way"] (sp3 K 3 Lk):=by
 refine ok3 T.fX.F df (hbody:=fun cdv A outer s H E hr=>⟨_,_,(ai (bh (bU (bS (aE (Nb T.tys) (by rfl) T.z_isinstance (by decide +kernel) (aa (bv 2) (aa (P3.opd (vR (n:="str") (by rfl) T.z_str (by decide +kernel))) ab))))) (ak cO) aR)
   (ai (aN (i:=3) df.nd rfl (Or.inl rfl) (dD (ag (eN (ag (p3v 0) (ag (p3v 1) az))) az)))
   (ai (fG PassesOwn.never rfl (Fq (p3v 2)) (aQ (i:=4) df.nd rfl (Or.inl rfl))
   (ai (bh (bU (bS (au (by rfl) (xq T) hr.dn (by rfl) T.hZ.m T.hZ.F.kp T.hZ.b (aa (P3.opd (p3v 4)) (aa (P3.opd (p3v 0)) (aa (P3.opd (p3v 1)) ab)))))) (ak cO) aR)
   (ai (bh (aU (q9 (by rfl)) (bv 4) (P3.opd (ir (p:=a.bL) (zs:=["r","b"]) (by rfl) T.gj)) (by with_unfolding_all rfl)) (ak (aN (i:=1) df.nd rfl (Or.inl rfl) (bM (P3.opd (aH (bv 1) (P3.opd af))) (P3.opd af)))) aR)
   (ai (bh (aU (q9 (by rfl)) (bv 4) (P3.opd (ir (p:=a.a_) (zs:=["p","b"]) (by rfl) T.dq)) (by with_unfolding_all rfl)) (ak (aN (i:=0) df.nd rfl (Or.inl rfl) (bM (P3.opd (aH (bv 0) (P3.opd af))) (P3.opd af)))) aR)
   (ak (fe (gn 3 (by rfl) (bv 3) (eN (ag (p3v 0) (ag (p3v 1) az))))))))))
   (ak (av (bX (yy (by rfl)) (by rfl) T.z_tuple (by decide +kernel) (aa (bv 3) ab))))))),fun Γa Q h hl=>?_⟩)
 obtain⟨h,w,ls,rfl,g,hls,q⟩:=h;walk_at "n7";refine⟨by rw[sizeLine_eq];omega,by rw[sizeLine_eq];omega,?_⟩;refine⟨Af ls,cB (fun k Γ=>k<=ls.length/\∃ s,Γ=[some (.fz (.int (cat h w ls k).1)),some (.fz (.int (cat h w ls k).2)),some (.fz (.str (wy ls))),some (.ow (.lst (((gZ h w ls).take (k + 1)).map cD))),fo s]) ⟨Nat.zero_le _,none,by rw[uT];cases ls <;> rfl⟩ ?_ ?_⟩
 ·rintro k d Γ hd ⟨hk,s,rfl⟩;rw[kn] at hd;obtain⟨l,hl,rfl⟩:=xI hd;have lt:=gN hl;walk_at "n7";refine⟨l,_,_,rfl,sM g hl,?_⟩;walk_at "n7";have st:=uS (h:=h) (w:=w) hl;have tk:((gZ h w ls).take (k + 1)).length<=11:=by rw[List.length_take,fv];omega
  have z1:(2:Nat)<=sizeLine:=by rw[sizeLine_eq];omega
  have z2:(((gZ h w ls).take (k + 1)).map cD).length < sizeLine:=by rw[lM0,sizeLine_eq];omega
  cases l
  ·have st':cat h w ls (k + 1)=((cat h w ls k).1,((cat h w ls k).2 + 1) / 2):=st;walk_at "n7";refine⟨⟨by decide,by decide⟩,?_⟩;walk_at "n7";refine⟨z1,z2,lt,some (.str Lt.r.s),?_⟩;rw[<- gq lt,st']
   rfl
  ·have st':cat h w ls (k + 1)=(((cat h w ls k).1 + 1) / 2,(cat h w ls k).2):=st;walk_at "n7";refine⟨⟨by decide,by decide⟩,?_⟩;walk_at "n7";refine⟨z1,z2,lt,some (.str Lt.p.s),?_⟩;rw[<- gq lt,st']
   rfl
  ·have st':cat h w ls (k + 1)=(((cat h w ls k).1 + 1) / 2,((cat h w ls k).2 + 1) / 2):=st;walk_at "n7";refine⟨⟨by decide,by decide⟩,?_⟩;walk_at "n7";refine⟨⟨by decide,by decide⟩,?_⟩;walk_at "n7";refine⟨z1,z2,lt,some (.str Lt.b.s),?_⟩;rw[<- gq lt,st']
   rfl
 ·rintro Γ ⟨hk,s,rfl⟩;walk_at "n7";rw[kn,lM0,List.take_of_length_le (by rw[fv];omega)];exact q
def Kq (a:Ad):S3:=fun Γ Q=>∃ (R:Rl) (h w:Int) (ls:List Lt),Γ=[some (.ln (.ins a.aW [] [])),some (.fz (.int h)),some (.fz (.int w)),some (.fz (.str R.word)),some (.fz (.str (wy ls)))]/\vz h w/\Good h w ls/\ls.length<=10/\
 Q (.fz .non) [some (.ln (plD a R h w ls)),some (.fz (.int h)),some (.fz (.int w)),some (.fz (.str R.word)),some (.fz (.str (wy ls)))]
theorem i7 (T:Txt K mg a):aG P w K mg base CX0 3 a.fM a.ja ["self","height","width","word","way"] (sp3 K 5 (Kq a)):=by
 refine ok3 T.fB.F p_ (hbody:=fun cdv A outer s H E hr=>⟨_,_,(ai (bh (bU (bS (au (by rfl) (t6 T) hr.dn (by rfl) T.eJ.m T.eJ.F.kp T.eJ.b (aa (P3.opd (p3v 1)) (aa (P3.opd (p3v 2)) ab))))) (ak cO) aR)
   (ai (sj (C0:=a.aW) 0 (by rfl) T.cg T.kS (bv 0) (au (by rfl) (AK T) hr.dn (by rfl) T.lT.m T.lT.F.kp T.lT.b (aa (P3.opd (p3v 3)) ab)))
   (ai (sj (C0:=a.aW) 0 (by rfl) T.cg T.dm (bv 0) (au (by rfl) (vg T) hr.dn (by rfl) T.fX.m T.fX.F.kp T.fX.b (aa (P3.opd (p3v 1)) (aa (P3.opd (p3v 2)) (aa (P3.opd (p3v 4)) ab)))))
   (ak (sj (C0:=a.aW) 0 (by rfl) T.cg T.fJ (bv 0) (p3v 4)))))),fun Γa Q h hl=>?_⟩)
 obtain⟨R,h,w,ls,rfl,sz,g,hls,q⟩:=h;walk_at "n7";refine⟨h,w,rfl,sz,?_⟩;walk_at "n7";refine⟨R,rfl,?_⟩;walk_at "n7";refine⟨h,w,ls,rfl,g,hls,?_⟩;walk_at "n7";exact⟨by decide +kernel,by decide +kernel,q⟩
def tI (a:Ad) (f:Rl->Int->Int->List Lt->D):S3:=fun Γ Q=>∃ (R:Rl) (h w:Int) (ls:List Lt),Γ=[some (.fz (plD a R h w ls))]/\ls.length<=10/\Q (.fz (f R h w ls)) Γ
theorem xA (T:Txt K mg a):aG P w K mg base CX0 1 a.lH a.o9 ["self"] (sp3 K 1 (tI a fun R _ _ _=>R.ob a)):=by
 refine ok3 T.qB.F w9 (hbody:=fun cdv A outer s H E hr=>⟨_,_,(ak (av (ff (f:="chosen") (by rfl) (bv 0) T.cg T.kS))),fun Γa Q h hl=>?_⟩);obtain⟨R,h,w,ls,rfl,hls,q⟩:=h;walk_at "n7";exact q
theorem zb (T:Txt K mg a):aG P w K mg base CX0 1 a.nJ a.qQ ["self"] (sp3 K 1 (tI a fun _ _ _ ls=>.str (wy ls))):=by
 refine ok3 T.sU.F yV (hbody:=fun cdv A outer s H E hr=>⟨_,_,(ak (av (ff (f:="letters") (by rfl) (bv 0) T.cg T.fJ))),fun Γa Q h hl=>?_⟩);obtain⟨R,h,w,ls,rfl,hls,q⟩:=h;walk_at "n7";exact q
theorem t9 (T:Txt K mg a):aG P w K mg base CX0 1 a.iS a.lg ["self"] (sp3 K 1 (tI a fun _ h _ _=>.int h)):=by
 refine ok3 T.mG.F tO (hbody:=fun cdv A outer s H E hr=>⟨_,_,(ak (av (aO (by rfl) (P3.opd (aO (by rfl) (P3.opd (ff (f:="corners") (by rfl) (bv 0) T.cg T.dm)) (P3.opd af) (fun _ _=>rfl))) (P3.opd af) (fun _ _=>rfl)))),fun Γa Q h hl=>?_⟩);obtain⟨R,h,w,ls,rfl,hls,q⟩:=h;walk_at "n7";have e:=yF (h:=h) (w:=w) (ls:=ls) (k:=0) (Nat.zero_le _);rw[uT] at e;refine b8.mpr ⟨_,e,?_⟩;unfold cD;walk_at "n7";exact q
theorem vm (T:Txt K mg a):aG P w K mg base CX0 1 a.jM a.m5 ["self"] (sp3 K 1 (tI a fun _ _ w _=>.int w)):=by
 refine ok3 T.nX.F vc (hbody:=fun cdv A outer s H E hr=>⟨_,_,(ak (av (aO (by rfl) (P3.opd (aO (by rfl) (P3.opd (ff (f:="corners") (by rfl) (bv 0) T.cg T.dm)) (P3.opd af) (fun _ _=>rfl))) (P3.opd af) (fun _ _=>rfl)))),fun Γa Q h hl=>?_⟩);obtain⟨R,h,w,ls,rfl,hls,q⟩:=h;walk_at "n7";have e:=yF (h:=h) (w:=w) (ls:=ls) (k:=0) (Nat.zero_le _);rw[uT] at e;refine b8.mpr ⟨_,e,?_⟩;unfold cD;walk_at "n7";exact q
theorem mQ (T:Txt K mg a):aG P w K mg base CX0 1 a.jN a.m6 ["self"] (sp3 K 1 (tI a fun _ _ _ ls=>.int ls.length)):=by
 refine ok3 T.jr.F vd (hbody:=fun cdv A outer s H E hr=>⟨_,_,(ak (av (aE (dJ (by rfl)) (by rfl) T.z_len (by decide +kernel) (aa (P3.opd (ff (f:="letters") (by rfl) (bv 0) T.cg T.fJ)) ab)))),fun Γa Q h hl=>?_⟩);obtain⟨R,h,w,ls,rfl,hls,q⟩:=h;walk_at "n7";refine⟨by rw[cx,sizeLine_eq];omega,?_⟩;rw[cx];exact q
def FP (a:Ad):S3:=fun Γ Q=>∃ (R:Rl) (h w:Int) (ls:List Lt) (k:Nat),Γ=[some (.fz (plD a R h w ls)),some (.fz (.int k))]/\ls.length<=10/\k<=ls.length/\Q (.fz (cD (cat h w ls k))) Γ
theorem t_ (T:Txt K mg a):aG P w K mg base CX0 2 a.iT a.lz ["self","step"] (sp3 K 2 (FP a)):=by
 refine ok3 T.mH.F tP (hbody:=fun cdv A outer s H E hr=>⟨_,_,(ai (bh (bU (bS (au (by rfl) (cQ T) hr.dn (by rfl) T.aM.m T.aM.F.kp T.aM.b (aa (P3.opd (p3v 1)) (aa (P3.opd af) (aa (P3.opd (aZ (by rfl) (bv 0) T.cg T.mR (mQ T) hr.dn T.jr.b)) ab)))))) (ak cO) aR)
   (ak (av (aO (by rfl) (P3.opd (ff (f:="corners") (by rfl) (bv 0) T.cg T.dm)) (bv 1) (fun _ _=>rfl))))),fun Γa Q h hl=>?_⟩)
 obtain⟨R,h,w,ls,k,rfl,hls,hk,q⟩:=h;walk_at "n7";refine⟨by decide +kernel,R,h,w,ls,rfl,hls,?_⟩;walk_at "n7";refine⟨_,_,_,rfl,rfl,?_⟩;rw[show whD (.int k) 0 (ls.length:Int)=true by simp only[whD,Bool.and_eq_true,decide_eq_true_eq];omega];walk_at "n7";exact b8.mpr ⟨_,yF hk,q⟩
theorem fO {α:Type} {f:α->D} {l:List α} {k:Nat} {d:D} (h:(l.map f)[k]?=some d):∃ x,l[k]?=some x/\d=f x:=by
 rw[List.getElem?_map] at h;cases q:l[k]? with
 | none=>rw[q] at h;cases h
 | some x=>rw[q] at h;cases h;exact⟨x,rfl,rfl⟩
theorem take_snoc {α:Type} {xs:List α} {k:Nat} {x:α} (h:xs[k]?=some x):xs.take (k + 1)=xs.take k++[x]:=by rw[List.take_succ,h];rfl
theorem wV {n:Nat} (h:n<=100000):n < sizeLine:=by rw[sizeLine_eq];omega
theorem ck {n k:Nat} {i:Int} {d:D} (h:(rng i n)[k]?=some d):k < n/\d=.int (i + k):=by
 unfold rng at h;obtain⟨x,hx,rfl⟩:=fO h;have lt:=gN hx;rw[List.length_range] at lt;rw[List.getElem?_range lt] at hx;cases hx;exact⟨lt,rfl⟩
theorem NX {n:Nat}:(List.range n).map (fun _=>D.bl true)=((List.range n).map fun _=>true).map D.bl:=by rw[List.map_map];rfl
theorem all_true {n:Nat}:((List.range n).map fun _=>true).all id=true:=by simp
structure GR (w:Nat) (R:LL0):Prop where
 h1:1<=R.length
 h2:R.length<=64
 w1:1<=w
 w2:w<=64
 all:R.length * w<=512
 len:∀ r∈R,r.length=w
 fig:∀ r∈R,Fig r
noncomputable abbrev rD (R:LL0):D:=.lst (R.map il)
noncomputable abbrev tD (r:Li0):D:=.tup (r.map .int)
noncomputable abbrev fD (a:Ad) (R:LL0):D:=.ins a.aI ["grid"] [.tup (R.map tD)]
def Ke:S3:=fun Γ Q=>∃ (w:Nat) (R:LL0),Γ=[some (.fz (rD R))]/\GR w R/\Q (.fz (.bl true)) Γ
theorem GR.at0 {w:Nat} {R:LL0} (g:GR w R):∃ r,R[0]?=some r/\r∈R/\r.length=w:=by
 have h:=g.h1;exact⟨R[0],gE0 (by omega),List.getElem_mem _,g.len _ (List.getElem_mem _)⟩
theorem y9 (T:Txt K mg a):aG P w K mg base CX0 4 a.uK a.qN ["thing"] (sp3 K 1 Ke):=by
 refine ok3 T.jm.F qC (hbody:=fun cdv A outer s H E hr=>⟨_,_,(ai (bh (P3W.pt (nD (bU (bS (aE (JL T.ty) (by rfl) T.z_isinstance (by decide +kernel) (aa (bv 0) (aa (P3.opd (vR (n:="list") (by rfl) T.z_list (by decide +kernel))) ab))))) (l4 (aU (jP (by rfl) hr) (P3.opd (aE (dJ (by rfl)) (by rfl) T.z_len (by decide +kernel) (aa (bv 0) ab))) (P3.opd af) (ba _))))) (ak (av kP)) aR)
   (ai (bh (bU (bS (aE (Gm (by rfl) rfl) (by rfl) T.z_all (by decide +kernel) (aa (P3.opd (bC rfl (cf (by rfl) (p3v 0)) lN (fun _ _ _ _ _=>(aQ (i:=0) lN.nd rfl (Or.inl rfl))) (fun _ _ _ _ _=>(au (by rfl) (vU T) hr.dn (by rfl) T.gx.m T.gx.F.kp T.gx.b (aa (P3.opd (p3v 0)) (aa (P3.opd af) ab)))))) ab)))) (ak (av kP)) aR)
   (ai (aN (i:=1) qC.nd rfl (Or.inr rfl) (aE (dJ (by rfl)) (by rfl) T.z_len (by decide +kernel) (aa (P3.opd (aO (by rfl) (bv 0) (P3.opd af) (fun _ _=>rfl))) ab)))
   (ak (av (AF (au (by rfl) (t6 T) hr.dn (by rfl) T.eJ.m T.eJ.F.kp T.eJ.b (aa (P3.opd (aE (dJ (by rfl)) (by rfl) T.z_len (by decide +kernel) (aa (bv 0) ab))) (aa (P3.opd (p3v 1)) ab))) (xl (aE (Gm (by rfl) rfl) (by rfl) T.z_all (by decide +kernel) (aa (P3.opd (bC rfl (cf (by rfl) (p3v 0)) lO (fun _ _ _ _ _=>(aQ (i:=0) lO.nd rfl (Or.inl rfl))) (fun _ _ _ _ _=>(iP (jP (by rfl) hr) (P3.opd (aE (dJ (by rfl)) (by rfl) T.z_len (by decide +kernel) (aa (bv 0) ab))) (bv 1) (ba _))))) ab))))))))),fun Γa Q h hl=>?_⟩)
 obtain⟨w,R,rfl,g,q⟩:=h;have g1:=g.h1;have g2:=g.h2;obtain⟨r0,h0,hm0,hl0⟩:=g.at0;walk_at "n5";rw[lM0,show ((R.length:Int) == 0)=false by rw[beq_eq_false_iff_ne];omega];walk_at "n5";refine⟨small (by rw[lM0];omega),aS (fun k ys Γc=>ys=(List.range k).map (fun _=>D.bl true)/\∃ s,Γc=[fo s]) ⟨rfl,none,rfl⟩ ?_ ?_⟩
 ·rintro k d ys Γc hd hk ⟨rfl,s,rfl⟩;obtain⟨r,hr,rfl⟩:=fO hd;have hm:=List.mem_of_getElem? hr;walk_at "n5";refine⟨r,1,rfl,g.fig r hm,by rw[g.len r hm];exact g.w2,by rw[g.len r hm];have:=g.w1;omega,?_⟩;walk_at "n5";exact⟨snoc rfl,some _,rfl⟩
 ·rintro ys Γc hk ⟨rfl,s,rfl⟩;walk_at "n5";refine⟨(List.range R.length).map fun _=>true,by rw[lM0,List.map_map];rfl,?_⟩;rw[all_true];walk_at "n5";refine b8.mpr ⟨il r0,a8 (by decide) (by rw[List.getElem?_map,show (Int.toNat 0)=0 from rfl,h0];rfl),?_⟩;walk_at "n5";refine⟨_,_,rfl,⟨by rw[lM0];omega,by rw[lM0,hl0];have:=g.w1;omega,by rw[lM0];omega,by rw[lM0,hl0];have:=g.w2;omega,by rw[lM0,lM0,hl0];have:=g.all;exact_mod_cast this⟩,?_⟩;walk_at "n5";refine⟨small (by rw[lM0];omega),aS (fun k ys Γc=>ys=(List.range k).map (fun _=>D.bl true)/\∃ s,Γc=[fo s,some (.fz (.int w))]) ⟨rfl,none,by rw[lM0,hl0];rfl⟩ ?_ ?_⟩
  ·rintro k d ys Γc hd hk ⟨rfl,s,rfl⟩;obtain⟨r,hr,rfl⟩:=fO hd;have hm:=List.mem_of_getElem? hr;walk_at "n5";rw[lM0,g.len r hm];walk_at "n5";exact⟨snoc rfl,some _,rfl⟩
  ·rintro ys Γc hk ⟨rfl,s,rfl⟩;walk_at "n5";refine⟨(List.range R.length).map fun _=>true,by rw[lM0,List.map_map];rfl,?_⟩;rw[all_true];exact q
def La (a:Ad):S3:=fun Γ Q=>∃ (w:Nat) (R:LL0),Γ=[some (.ln (.ins a.aI [] [])),some (.fz (rD R))]/\GR w R/\Q (.fz .non) [some (.ln (fD a R)),some (.fz (rD R))]
theorem ej (T:Txt K mg a):aG P w K mg base CX0 5 a.eU a.iB ["self","rows"] (sp3 K 2 (La a)):=by
 refine ok3 T.cY.F n6 (hbody:=fun cdv A outer s H E hr=>⟨_,_,(ai (bh (bU (bS (au (by rfl) (y9 T) hr.dn (by rfl) T.jm.m T.jm.F.kp T.jm.b (aa (P3.opd (p3v 1)) ab)))) (ak cO) aR)
   (ak (sj (C0:=a.aI) 0 (by rfl) T.bu T.dg (bv 0) (bX (yy (by rfl)) (by rfl) T.z_tuple (by decide +kernel) (aa (P3.opd (bC rfl (cf (by rfl) (p3v 1)) fA (fun _ _ _ _ _=>(aQ (i:=0) fA.nd rfl (Or.inl rfl))) (fun _ _ _ _ _=>(bX (yy (by rfl)) (by rfl) T.z_tuple (by decide +kernel) (aa (bv 0) ab))))) ab))))),fun Γa Q h hl=>?_⟩)
 obtain⟨w,R,rfl,g,q⟩:=h;have g2:=g.h2;walk_at "n5";refine⟨w,R,rfl,g,?_⟩;walk_at "n5";refine⟨small (by rw[lM0];omega),aS (fun k ys Γc=>ys=(R.take k).map tD/\∃ s,Γc=[fo s]) ⟨rfl,none,rfl⟩ ?_ ?_⟩
 ·rintro k d ys Γc hd hk ⟨rfl,s,rfl⟩;obtain⟨r,hr,rfl⟩:=fO hd;walk_at "n5";exact⟨by rw[take_snoc hr,List.map_append];rfl,some _,rfl⟩
 ·rintro ys Γc hk ⟨rfl,s,rfl⟩;walk_at "n5";rw[List.take_of_length_le (by rw[lM0];exact Nat.le_refl _)];exact q
theorem J8 {n:Nat} (h:n<=100000):n<=sizeLine:=Nat.le_of_lt (wV h)
def Ih (a:Ad):S3:=fun Γ Q=>∃ (w:Nat) (R:LL0),Γ=[some (.fz (fD a R))]/\GR w R/\Q (.fr (rD R)) Γ
theorem fh (T:Txt K mg a):aG P w K mg base CX0 1 a.jO a.m7 ["self"] (sp3 K 1 (Ih a)):=by
 refine ok3 T.dU.F ve (hbody:=fun cdv A outer s H E hr=>⟨_,_,(ak (av (bC rfl (Lb (by rfl) (ff (f:="grid") (by rfl) (bv 0) T.bu T.dg)) ji (fun _ _ _ _ _=>(aQ (i:=0) ji.nd rfl (Or.inl rfl))) (fun _ _ _ _ _=>(bX (yz (by rfl)) (by rfl) T.z_list (by decide +kernel) (aa (bv 0) ab)))))),fun Γa Q h hl=>?_⟩);obtain⟨w,R,rfl,g,q⟩:=h;have g2:=g.h2;walk_at "n5";refine⟨wV (by rw[lM0];omega),aS (fun k ys Γc=>ys=(R.take k).map il/\∃ s,Γc=[fo s]) ⟨rfl,none,rfl⟩ ?_ ?_⟩
 ·rintro k d ys Γc hd hk ⟨rfl,s,rfl⟩;obtain⟨r,hr,rfl⟩:=fO hd;walk_at "n5";exact⟨by rw[take_snoc hr,List.map_append];rfl,some _,rfl⟩
 ·rintro ys Γc hk ⟨rfl,s,rfl⟩;walk_at "n5";rw[List.take_of_length_le (by rw[lM0];exact Nat.le_refl _)];exact q
def DA (a:Ad):S3:=fun Γ Q=>∃ (w:Nat) (R:LL0),Γ=[some (.fz (fD a R))]/\GR w R/\Q (.fz (.int R.length)) Γ
theorem fI (T:Txt K mg a):aG P w K mg base CX0 1 a.gY a.j5 ["self"] (sp3 K 1 (DA a)):=by
 refine ok3 T.dW.F rE (hbody:=fun cdv A outer s H E hr=>⟨_,_,(ak (av (aE (dJ (by rfl)) (by rfl) T.z_len (by decide +kernel) (aa (P3.opd (ff (f:="grid") (by rfl) (bv 0) T.bu T.dg)) ab)))),fun Γa Q h hl=>?_⟩);obtain⟨w,R,rfl,g,q⟩:=h;walk_at "n5";rw[lM0];exact q
def FC (a:Ad):S3:=fun Γ Q=>∃ (w:Nat) (R:LL0),Γ=[some (.fz (fD a R))]/\GR w R/\Q (.fz (.int w)) Γ
theorem gK (T:Txt K mg a):aG P w K mg base CX0 1 a.iV a.lB ["self"] (sp3 K 1 (FC a)):=by
 refine ok3 T.fc.F tR (hbody:=fun cdv A outer s H E hr=>⟨_,_,(ak (av (aE (dJ (by rfl)) (by rfl) T.z_len (by decide +kernel) (aa (P3.opd (aO (by rfl) (P3.opd (ff (f:="grid") (by rfl) (bv 0) T.bu T.dg)) (P3.opd af) (fun _ _=>rfl))) ab)))),fun Γa Q h hl=>?_⟩);obtain⟨w,R,rfl,g,q⟩:=h;obtain⟨r0,h0,hm0,hl0⟩:=g.at0;walk_at "n5";refine b8.mpr ⟨tD r0,a8 (by decide) (by rw[List.getElem?_map,show (Int.toNat 0)=0 from rfl,h0];rfl),?_⟩;walk_at "n5";rw[lM0,hl0];exact q
theorem wg {α:Type} {f:Nat->List α} {k:Nat}:((List.range k).map f).flatten++f k=((List.range (k + 1)).map f).flatten:=by
 rw[List.range_succ,List.map_append,List.flatten_append];simp
theorem zK {α:Type} {f:Nat->List α} {m:Nat} (hf:∀ k,(f k).length=m):∀ n,(((List.range n).map f).flatten).length=n * m
 | 0=>by simp
 | n + 1=>by rw[<- wg,List.length_append,zK hf n,hf,Nat.add_mul,Nat.one_mul]
theorem A_ {w:Nat}:∀ {R:LL0},(∀ r∈R,r.length=w)->R.flatten.length=R.length * w
 | [],_=>by simp
 | r::R,h=>by
  rw[List.flatten_cons,List.length_append,A_ fun x hx=>h x (.tail _ hx),h r (.head _),List.length_cons,Nat.add_mul,Nat.one_mul,Nat.add_comm]
theorem GR.take {w:Nat} {R:LL0} (g:GR w R) (k:Nat):((R.take k).flatten).length<=512:=by
 rw[A_ fun r hr=>g.len r (List.mem_of_mem_take hr)];refine Nat.le_trans (Nat.mul_le_mul_right w ?_) g.all;rw[List.length_take];omega
theorem GR.fll {w:Nat} {R:LL0} (g:GR w R):R.flatten.length=R.length * w:=A_ g.len
theorem M0 {R:LL0} {k:Nat} {r:Li0} (h:R[k]?=some r):(R.take (k + 1)).flatten=(R.take k).flatten++r:=by
 rw[take_snoc h,List.flatten_append];simp
noncomputable abbrev pD (h w:Int):D:=.tup [.int h,.int w]
noncomputable def Ay (w:Nat) (y:Nat):List D:=(List.range w).map fun x:Nat=>pD (y:Int) (x:Int)
noncomputable def pls (h w:Nat):List D:=((List.range h).map (Ay w)).flatten
theorem y4 {w y:Nat}:(Ay w y).length=w:=by simp [Ay]
theorem BO {h w:Nat}:(pls h w).length=h * w:=zK (fun _=>y4) h
def Dz (a:Ad):S3:=fun Γ Q=>∃ (w:Nat) (R:LL0),Γ=[some (.fz (fD a R))]/\GR w R/\Q (.fr (.lst (pls R.length w))) Γ
theorem rL (T:Txt K mg a):aG P w K mg base CX0 2 a.gX a.j4 ["self"] (sp3 K 1 (Dz a)):=by
 refine ok3 T.km.F rC (hbody:=fun cdv A outer s H E hr=>⟨_,_,(ak (av (ES rfl (bc (by rfl) T.z_range (ag (aZ (by rfl) (bv 0) T.bu T.fK (fI T) hr.dn T.dW.b) az)) dF (fun _ _ _ _ _=>(aQ (i:=0) dF.nd rfl (Or.inl rfl))) (fun _ _ _ _ _=>(bc (by rfl) T.z_range (ag (aZ (by rfl) (bv 2) T.bu T.gL (gK T) hr.dn T.fc.b) az))) (fun _ _ _ _ _=>(aQ (i:=1) dF.nd rfl (Or.inl rfl))) (fun _ _ _ _ _=>(eN (ag (p3v 0) (ag (p3v 1) az))))))),fun Γa Q h hl=>?_⟩);obtain⟨w,R,rfl,g,q⟩:=h;have g2:=g.h2;have w2:=g.w2;walk_at "n5";refine⟨by decide +kernel,w,R,rfl,g,?_⟩;walk_at "n5";refine⟨by omega,by omega,DB (fun k ys Γc=>ys=pls k w/\k<=R.length/\∃ s s',Γc=[fo s,fo s',some (.fz (fD a R))]) ⟨rfl,by omega,none,none,rfl⟩ ?_ ?_⟩
 ·rintro k d ys Γc hd ⟨rfl,hk,s,s',rfl⟩;obtain⟨lt,rfl⟩:=ck hd;have fb:k * w<=64 * 64:=Nat.mul_le_mul (by omega) (by omega);walk_at "n5";refine⟨by decide +kernel,w,R,rfl,g,?_⟩;walk_at "n5";refine⟨by omega,by omega,fun j ys Γc=>ys=pls k w++Ay j k/\j<=w/\∃ s',Γc=[some (.fz (.int (0 + (k:Int)))),fo s',some (.fz (fD a R))],⟨by simp [Ay],by omega,s',rfl⟩,?_,?_⟩
  ·rintro j d ys Γc hd ⟨rfl,hj,s',rfl⟩;obtain⟨lt2,rfl⟩:=ck hd;walk_at "n5";refine⟨wV (by rw[List.length_append,BO,y4];omega),J8 (by decide),?_,by omega,some _,rfl⟩;rw[List.append_assoc];congr 1;unfold Ay;rw[List.range_succ,List.map_append];simp
  ·rintro ys Γc ⟨rfl,hj,s',rfl⟩;refine⟨?_,by omega,some _,s',rfl⟩;rw[bj];exact wg
 ·rintro ys Γc ⟨rfl,hk,s,s',rfl⟩;have fb:R.length * w<=64 * 64:=Nat.mul_le_mul (by omega) (by omega);rw[bj,Int.toNat_natCast];refine⟨wV (by rw[BO];omega),?_⟩;walk_at "n5";exact q
noncomputable def plB (d:D) (h w:Int):Bool:=match d with
 | .tup [x,y]=>whD x 0 (h - 1) && whD y 0 (w - 1)
 | _=>false
def knT (d:D):Prop:=knD d=true/\∀ x y,d=.tup [x,y]->knD x=true/\knD y=true
def DP:S3:=fun Γ Q=>∃ (d:D) (h w:Int),Γ=[some (.fz d),some (.fz (.int h)),some (.fz (.int w))]/\knT d/\Q (.fz (.bl (plB d h w))) Γ
theorem nF (T:Txt K mg a):aG P w K mg base CX0 2 a.iC a.gT ["thing","height","width"] (sp3 K 3 DP):=by
 refine ok3 T.cF.F nu (hbody:=fun cdv A outer s H E hr=>⟨_,_,(ai (bh (P3W.pt (nD (bU (bS (aE (Na T.ty) (by rfl) T.z_isinstance (by decide +kernel) (aa (bv 0) (aa (P3.opd (vR (n:="tuple") (by rfl) T.z_tuple (by decide +kernel))) ab))))) (l4 (aU (iW (by rfl) hr) (P3.opd (aE (dJ (by rfl)) (by rfl) T.z_len (by decide +kernel) (aa (bv 0) ab))) (P3.opd af) (ba _))))) (ak (av kP)) aR)
   (ak (av (AF (au (by rfl) (cQ T) hr.dn (by rfl) T.aM.m T.aM.F.kp T.aM.b (aa (P3.opd (aO (by rfl) (bv 0) (P3.opd af) (fun _ _=>rfl))) (aa (P3.opd af) (aa (P3.opd (cP (bv 1) (P3.opd af))) ab)))) (xl (au (by rfl) (cQ T) hr.dn (by rfl) T.aM.m T.aM.F.kp T.aM.b (aa (P3.opd (aO (by rfl) (bv 0) (P3.opd af) (fun _ _=>rfl))) (aa (P3.opd af) (aa (P3.opd (cP (bv 2) (P3.opd af))) ab))))))))),fun Γa Q h hl=>?_⟩)
 obtain⟨d,h,w,rfl,⟨hk,hk2⟩,q⟩:=h;cases d <;> (try cases hk) <;> walk_at "n5" <;> (try exact q)
 rename_i xs;by_cases h2:xs.length=2
 ·obtain⟨x,y,rfl⟩:∃ x y,xs=[x,y]:=by
   match xs,h2 with
   | [x,y],_=>exact⟨x,y,rfl⟩
  obtain⟨k1,k2⟩:=hk2 x y rfl;rw[show ((([x,y]:List D).length:Int) == 2)=true from rfl];walk_at "n5";refine⟨_,_,_,rfl,k1,?_⟩;have e:plB (.tup [x,y]) h w=(whD x 0 (h - 1) && whD y 0 (w - 1)):=rfl;rw[e] at q;cases hx:whD x 0 (h - 1) with
  | false=>
   rw[hx] at q;walk_at "n5";exact q
  | true=>
   rw[hx] at q;walk_at "n5";exact⟨_,_,_,rfl,k2,q⟩
 ·rw[show ((xs.length:Int) == 2)=false by rw[beq_eq_false_iff_ne];omega];walk_at "n5";have e:plB (.tup xs) h w=false:=by
   unfold plB;split
   ·rename_i x y z;cases z;exact absurd rfl h2
   ·rfl
  rw[e] at q;exact q
def Lh (a:Ad):S3:=fun Γ Q=>∃ (w:Nat) (R:LL0) (d:D),Γ=[some (.fz (fD a R)),some (.fz d)]/\GR w R/\knT d/\Q (.fz (.bl (plB d R.length w))) Γ
theorem oC (T:Txt K mg a):aG P w K mg base CX0 3 a.eR a.iA ["self","thing"] (sp3 K 2 (Lh a)):=by
 refine ok3 T.i4.F n4 (hbody:=fun cdv A outer s H E hr=>⟨_,_,(ak (av (au (by rfl) (nF T) hr.dn (by rfl) T.cF.m T.cF.F.kp T.cF.b (aa (P3.opd (p3v 1)) (aa (P3.opd (aZ (by rfl) (bv 0) T.bu T.fK (fI T) hr.dn T.dW.b)) (aa (P3.opd (aZ (by rfl) (bv 0) T.bu T.gL (gK T) hr.dn T.fc.b)) ab)))))),fun Γa Q h hl=>?_⟩);obtain⟨w,R,d,rfl,g,hk,q⟩:=h;walk_at "n5";refine⟨by decide +kernel,w,R,rfl,g,?_⟩;walk_at "n5";refine⟨by decide +kernel,w,R,rfl,g,?_⟩;walk_at "n5";exact⟨d,_,_,rfl,hk,q⟩
theorem L6 {y x h w:Nat} (hy:y < h) (hx:x < w):plB (pD y x) h w=true:=by
 simp only[plB,whD,Bool.and_eq_true,decide_eq_true_eq];omega
theorem MG {y x:Int}:knT (pD y x):=⟨rfl,fun a b e=>by cases e;exact⟨rfl,rfl⟩⟩
theorem GR.row {w:Nat} {R:LL0} (g:GR w R) {y:Nat} (hy:y < R.length):∃ r,R[y]?=some r/\r.length=w/\Fig r:=
 ⟨R[y],gE0 hy,g.len _ (List.getElem_mem _),g.fig _ (List.getElem_mem _)⟩
def M1 (a:Ad):S3:=fun Γ Q=>∃ (w:Nat) (R:LL0) (y x:Nat) (r:Li0) (n:Int),Γ=[some (.fz (fD a R)),some (.fz (pD y x))]/\GR w R/\R[y]?=some r/\r[x]?=some n/\Q (.fz (.int n)) Γ
theorem zd (T:Txt K mg a):aG P w K mg base CX0 4 a.nK a.qR ["self","place"] (sp3 K 2 (M1 a)):=by
 refine ok3 T.sV.F kz (hbody:=fun cdv A outer s H E hr=>⟨_,_,(ai (bh (bU (bS (bB (by rfl) (bv 0) T.bu T.oM (oC T) hr.dn T.i4.b (aa (P3.opd (p3v 1)) ab)))) (ak cO) aR)
   (ai (n_ (is:=[2,3]) (by rfl) (p3v 1) (aJ (aP (i:=2) kz.nd rfl (Or.inl rfl)) (aJ (aP (i:=3) kz.nd rfl (Or.inl rfl)) bZ)) rfl)
   (ak (av (aO (by rfl) (P3.opd (aO (by rfl) (P3.opd (ff (f:="grid") (by rfl) (bv 0) T.bu T.dg)) (bv 2) (fun _ _=>rfl))) (bv 3) (fun _ _=>rfl)))))),fun Γa Q h hl=>?_⟩)
 obtain⟨w,R,y,x,r,n,rfl,g,hr',hn,q⟩:=h;have ly:=gN hr';have lx:=gN hn;have lr:=g.len r (List.mem_of_getElem? hr');walk_at "n5";refine⟨by decide +kernel,w,R,pD y x,rfl,g,MG,?_⟩;rw[L6 ly (by omega)];walk_at "n5";refine b8.mpr ⟨tD r,a8 (by omega) (by rw[List.getElem?_map,Int.toNat_natCast,hr'];rfl),?_⟩;walk_at "n5";refine b8.mpr ⟨.int n,a8 (by omega) (by rw[List.getElem?_map,Int.toNat_natCast,hn];rfl),?_⟩;walk_at "n5";exact q
noncomputable def B5:Arguments×Expr×Scope:=match (c7 cK).getD 2 (.Pass ⟨0,0,0,0⟩) with
 | .Return (some (.Call _ [.Call _ [_,.Lambda ps b sc _,_] _ _] _ _)) _=>(ps,b,sc)
 | _=>(gi (.Pass ⟨0,0,0,0⟩),.Constant .none 0 ⟨0,0,0,0⟩,ae (.Pass ⟨0,0,0,0⟩))
noncomputable abbrev qL:Str:=Str.ofString "halved.<locals>.<lambda>"
abbrev LA (base:Heap) (o:Unit->Obj) (f:Addr) (v:V):Prop:=wK base qL B5.1 B5.2.1 B5.2.2 "rule" (o ()) f v
theorem Ka:u4 ["row"] "rule" B5.2.2:=⟨rfl,rfl,rfl,by decide +kernel,by decide +kernel,by decide +kernel,by decide +kernel,by decide +kernel⟩
def MF (a:Ad):S3:=fun Γ Q=>∃ (R:Rl) (ns:Li0),Γ=[some (.fz (il ns)),some (.fz (R.ob a))]/\Fig ns/\2<=ns.length/\ns.length<=64/\Q (.two ((R.sums ns).map .int) ((R.dif ns).map .int)) Γ
theorem KQ {o:Unit->Obj} {f:Addr} {v:V} (T:Txt K mg a) (L:LA base o f v):∃ fd,base.get? f=some (o ())/\(o ()).data=.func fd/\Binds K fd ["row"] []/\aG P w K mg base CX0 5 f fd ["row"] (fun vs H Q _=>sp3 K 2 (MF a) (vs++[v]) H Q E0):=by
 refine okL (ps:=["row"]) L Ka (fun c d A outer s H hr=>⟨_,_,(P3.or (bB (by rfl) (bv 1) T.ma T.ug (ee T) hr.dn T.de.b (aa (P3.opd (p3v 0)) ab)) (P3.or (bB (by rfl) (bv 1) T.gr T.qi (ee T) hr.dn T.de.b (aa (P3.opd (p3v 0)) ab)) (P3.or (bB (by rfl) (bv 1) T.nL T.oK (ee T) hr.dn T.de.b (aa (P3.opd (p3v 0)) ab)) (bB (by rfl) (bv 1) T.eV T.oG (ee T) hr.dn T.de.b (aa (P3.opd (p3v 0)) ab))))),fun Γ Q hl h=>?_⟩) (fun _ _ _ _ us hl=>by obtain⟨_,rfl⟩:=ln1 hl;rfl);obtain⟨R,ns,rfl,hf,h2,h1,q⟩:=h;cases R with
 | sum=>
  refine .inl ?_;walk_at "n5";exact⟨rfl,.sum,ns,rfl,hf,h2,h1,q⟩
 | half=>
  refine .inr (.inl ?_);walk_at "n5";exact⟨rfl,.half,ns,rfl,hf,h2,h1,q⟩
 | guess=>
  refine .inr (.inr (.inl ?_));walk_at "n5";exact⟨rfl,.guess,ns,rfl,hf,h2,h1,q⟩
 | lean=>
  refine .inr (.inr (.inr ?_));walk_at "n5";exact⟨rfl,.lean,ns,rfl,hf,h2,h1,q⟩
theorem yl {α:Type} {f:α->D} {F:List α} {n:Nat} (h:n<=F.length):cut (F.map f) none (some (n:Int))=(F.take n).map f:=by
 unfold cut;rw[HT.tS,HT.BF,lM0,List.drop_zero,Nat.sub_zero,Nat.min_eq_left h,List.map_take]
theorem lL {α:Type} {f:α->D} {F:List α} {n:Nat} (h:n<=F.length):cut (F.map f) (some (n:Int)) none=(F.drop n).map f:=by
 unfold cut;rw[HT.tS,HT.BF,lM0,Nat.min_eq_left h,List.take_of_length_le (by rw[List.length_drop,lM0];exact Nat.le_refl _),List.map_drop]
noncomputable def gP (R:Rl) (ns:Li0) (m:Nat):Li0:=R.sums (ns.take m)++R.dif (ns.take m)++ns.drop m
def Lc (a:Ad) (o:Unit->Obj) (f:Addr) (v:V):S3:=fun Γ Q=>∃ (R:Rl) (ns:Li0) (m:Nat),Γ=[some (.fz (.fn o f v (R.ob a))),some (.fz (il ns)),some (.fz (.int m))]/\Fig (ns.take m)/\2<=m/\m<=ns.length/\ns.length<=64/\(gP R ns m).length<=1000/\Q (.fr (il (gP R ns m))) Γ
theorem xp {o:Unit->Obj} {f:Addr} {v:V} (T:Txt K mg a) (L:LA base o f v):aG P w K mg base CX0 6 a.qT a.oW ["part","row","many"] (sp3 K 3 (Lc a o f v)):=by
 obtain⟨fd,hf,ho,hb,Fl⟩:=KQ T L;refine ok3 T.hX.F ju (hbody:=fun cdv A outer s H E hr=>⟨_,_,(ai (n_ (is:=[3,4]) (by rfl) (EU hf ho Fl hr.dn hb (i:=0) (by rfl) (by first | exact Or.inl rfl | exact Or.inr (Or.inl rfl) | exact Or.inr (Or.inr rfl)) (aa (P3.opd (cA (by rfl) (bv 1) bp (aX (bv 2)))) ab)) (aJ (aP (i:=3) ju.nd rfl (Or.inl rfl)) (aJ (aP (i:=4) ju.nd rfl (Or.inl rfl)) bZ)) rfl)
   (ak (av (aH (P3.opd (aH (bv 3) (bv 4))) (P3.opd (cA (by rfl) (bv 1) (aX (bv 2)) bp)))))),fun Γa Q h hl=>?_⟩)
 obtain⟨R,ns,m,rfl,hF,h2,h1,h64,hln,q⟩:=h;walk_at "n5";refine⟨R.ob a,rfl,?_⟩;walk_at "n5";rw[yl h1];refine⟨R,ns.take m,rfl,hF,by rw[List.length_take];omega,by rw[List.length_take];omega,?_⟩;walk_at "n5";rw[lL h1];have hl':(R.sums (ns.take m)).length + (R.dif (ns.take m)).length + (ns.drop m).length<=1000:=by simpa only[gP,List.length_append] using hln
 refine⟨by rw[lM0,lM0,sizeLine_eq];omega,by rw[List.length_append,lM0,lM0,lM0,sizeLine_eq];omega,?_⟩;rw[<- List.map_append,<- List.map_append];exact q
noncomputable def cq (R:Rl) (rows:LL0) (h m:Nat):LL0:=(rows.take h).map (fun r=>gP R r m)++rows.drop h
def HZ (a:Ad) (o:Unit->Obj) (f:Addr) (v:V):S3:=fun Γ Q=>∃ (R:Rl) (rows:LL0) (h m:Nat),Γ=[some (.fz (.fn o f v (R.ob a))),some (.fz (rD rows)),some (.fz (.int h)),some (.fz (.int m))]/\rows.length<=64/\h<=rows.length/\
 2<=m/\(∀ r∈rows.take h,Fig (r.take m)/\m<=r.length/\r.length<=64/\(gP R r m).length<=1000)/\Q (.fr (rD (cq R rows h m))) Γ
theorem mO {o:Unit->Obj} {f:Addr} {v:V} (T:Txt K mg a) (L:LA base o f v):aG P w K mg base CX0 7 a.pb a.mV ["part","rows","height","width"] (sp3 K 4 (HZ a o f v)):=by
 refine ok3 T.cu.F u_ (hbody:=fun cdv A outer s H E hr=>⟨_,_,(ak (av (aH (P3.opd (bC rfl (cf (by rfl) (cA (by rfl) (bv 1) bp (aX (bv 2)))) jc (fun _ _ _ _ _=>(aQ (i:=0) jc.nd rfl (Or.inl rfl))) (fun _ _ _ _ _=>(au (by rfl) (xp T L) hr.dn (by rfl) T.hX.m T.hX.F.kp T.hX.b (aa (P3.opd (p3v 1)) (aa (P3.opd (p3v 0)) (aa (P3.opd (p3v 2)) ab))))))) (P3.opd (cA (by rfl) (bv 1) (aX (bv 2)) bp))))),fun Γa Q h hl=>?_⟩);obtain⟨R,rows,h,m,rfl,h64,hh,h2,hrs,q⟩:=h;walk_at "n5";rw[yl hh];have ht:(rows.take h).length=h:=by rw[List.length_take];omega
 refine⟨small (by rw[lM0,ht];omega),aS (fun k ys Γc=>ys=((rows.take h).take k).map (fun r=>il (gP R r m))/\∃ s,Γc=[fo s,some (.fz (.fn o f v (R.ob a))),some (.fz (.int m))]) ⟨rfl,none,rfl⟩ ?_ ?_⟩
 ·rintro k d ys Γc hd hk ⟨rfl,s,rfl⟩;obtain⟨r,hr',rfl⟩:=fO hd;obtain⟨r1,r2,r3,r4⟩:=hrs r (List.mem_of_getElem? hr');walk_at "n5";refine⟨R,r,m,rfl,r1,h2,r2,r3,r4,?_⟩;walk_at "n5";exact⟨by rw[take_snoc hr',List.map_append];rfl,some _,rfl⟩
 ·rintro ys Γc hk ⟨rfl,s,rfl⟩;walk_at "n5";rw[lL hh,List.take_of_length_le (show (rows.take h).length<=((rows.take h).map il).length by rw[lM0];exact Nat.le_refl _)];refine⟨by rw[lM0,lM0,List.length_drop,ht,sizeLine_eq];omega,?_⟩;rw[show (rows.take h).map (fun r=>il (gP R r m))++(rows.drop h).map il=(cq R rows h m).map il by unfold cq;rw[List.map_append,List.map_map];rfl];exact q
def D6 (a:Ad):S3:=fun Γ Q=>∃ (h w:Int) (d:D),Γ=[some (.fz d)]/\((∃ (R:Rl) (ls:List Lt),d=plD a R h w ls/\ls.length<=10)\/∃ (u:Nat) (G:LL0),d=fD a G/\GR u G/\h=G.length/\w=u)/\Q (.fz (.tup [.int h,.int w])) Γ
theorem tZ (T:Txt K mg a):aG P w K mg base CX0 2 a.wm a.uB ["thing"] (sp3 K 1 (D6 a)):=by
 refine ok3 T.eI.F Aq (hbody:=fun cdv A outer s H E hr=>⟨_,_,(ak (av (eN (ag (P3.or (aZ (by rfl) (bv 0) T.cg T.uh (t9 T) hr.dn T.mG.b) (aZ (by rfl) (bv 0) T.bu T.fK (fI T) hr.dn T.dW.b)) (ag (P3.or (aZ (by rfl) (bv 0) T.cg T.vo (vm T) hr.dn T.nX.b) (aZ (by rfl) (bv 0) T.bu T.gL (gK T) hr.dn T.fc.b)) az))))),fun Γa Q h hl=>?_⟩);obtain⟨h,w,d,rfl,hd,q⟩:=h;rcases hd with ⟨R,ls,rfl,hls⟩ | ⟨u,G,rfl,g,rfl,rfl⟩
 ·walk_at "n5";refine .inl ⟨by decide +kernel,R,h,w,ls,rfl,hls,?_⟩;walk_at "n5";refine .inl ⟨by decide +kernel,R,h,w,ls,rfl,hls,?_⟩;walk_at "n5";exact⟨by rw[sizeLine_eq];omega,q⟩
 ·walk_at "n5";refine .inr ⟨by decide +kernel,u,G,rfl,g,?_⟩;walk_at "n5";refine .inr ⟨by decide +kernel,u,G,rfl,g,?_⟩;walk_at "n5";exact⟨by rw[sizeLine_eq];omega,q⟩
def M8 (a:Ad):S3:=fun Γ Q=>∃ (G:LL0),Γ=[some (.fz (fD a G))]/\Q (.fz .non) Γ
theorem t8 (T:Txt K mg a):aG P w K mg base CX0 1 a.m9 a.k8 ["thing"] (sp3 K 1 (M8 a)):=by
 refine ok3 T.e_.F tL (hbody:=fun cdv A outer s H E hr=>⟨_,_,(ak (bh (bU (bS (aE (JK (by rfl) T.zv) (by rfl) T.z_isinstance (by decide +kernel) (aa (bv 0) (aa (P3.opd (BU (by rfl) T.kU)) ab))))) (ak cO) aR)),fun Γa Q h hl=>?_⟩);obtain⟨G,rfl,q⟩:=h;walk_at "n5";refine⟨true,by simp [HB],?_⟩;walk_at "n5";exact q
def M7 (a:Ad):S3:=fun Γ Q=>∃ (R:Rl) (ls:List Lt) (u:Nat) (G:LL0),Γ=[some (.fz (plD a R G.length u ls)),some (.fz (fD a G))]/\ls.length<=10/\GR u G/\Q (.fz .non) Γ
theorem vh (T:Txt K mg a):aG P w K mg base CX0 3 a.pj a.mX ["plan","thing"] (sp3 K 2 (M7 a)):=by
 refine ok3 T.fY.F va (hbody:=fun cdv A outer s H E hr=>⟨_,_,(ai (fe (au (by rfl) (t8 T) hr.dn (by rfl) T.e_.m T.e_.F.kp T.e_.b (aa (P3.opd (p3v 1)) ab)))
   (ak (bh (aU (iW (by rfl) hr) (P3.opd (au (by rfl) (tZ T) hr.dn (by rfl) T.eI.m T.eI.F.kp T.eI.b (aa (P3.opd (p3v 0)) ab))) (P3.opd (au (by rfl) (tZ T) hr.dn (by rfl) T.eI.m T.eI.F.kp T.eI.b (aa (P3.opd (p3v 1)) ab))) (ba _)) (ak cO) aR))),fun Γa Q h hl=>?_⟩)
 obtain⟨R,ls,u,G,rfl,hls,g,q⟩:=h;walk_at "n5";refine⟨G,rfl,?_⟩;walk_at "n5";refine⟨_,_,_,rfl,.inl ⟨R,ls,rfl,hls⟩,?_⟩;walk_at "n5";refine⟨_,_,_,rfl,.inr ⟨u,G,rfl,g,rfl,rfl⟩,?_⟩;walk_at "n5";refine⟨true,by simp [eqN,fN,eqS],?_⟩;walk_at "n5";exact q
theorem Hl {h w k:Nat} {d:D} (e:(pls h w)[k]?=some d):∃ y x:Nat,y < h/\x < w/\d=pD y x:=by
 have m:=List.mem_of_getElem? e;unfold pls at m;obtain⟨l,hl,hd⟩:=List.mem_flatten.mp m;obtain⟨y,hy,rfl⟩:=List.mem_map.mp hl;unfold Ay at hd;obtain⟨x,hx,rfl⟩:=List.mem_map.mp hd;exact⟨y,x,List.mem_range.mp hy,List.mem_range.mp hx,rfl⟩
def M9 (a:Ad):S3:=fun Γ Q=>∃ (u:Nat) (G:LL0) (lo hi:Int),Γ=[some (.fz (fD a G)),some (.fz (.int lo)),some (.fz (.int hi))]/\GR u G/\(∀ r∈G,∀ n∈r,lo<=n/\n<=hi)/\Q (.fz .non) Γ
theorem rF (T:Txt K mg a):aG P w K mg base CX0 5 a.lC a.jW ["field","low","high"] (sp3 K 3 (M9 a)):=by
 refine ok3 T.dO.F jT (hbody:=fun cdv A outer s H E hr=>⟨_,_,(ak (fG PassesOwn.never rfl (cf (by rfl) (aZ (by rfl) (bv 0) T.bu T.rP (rL T) hr.dn T.km.b)) (aQ (i:=3) jT.nd rfl (Or.inl rfl))
   (ak (bh (bU (bS (au (by rfl) (cQ T) hr.dn (by rfl) T.aM.m T.aM.F.kp T.aM.b (aa (P3.opd (bB (by rfl) (bv 0) T.bu T.zj (zd T) hr.dn T.sV.b (aa (P3.opd (p3v 3)) ab))) (aa (P3.opd (p3v 1)) (aa (P3.opd (p3v 2)) ab)))))) (ak cO) aR)))),fun Γa Q h hl=>?_⟩)
 obtain⟨u,G,lo,hi,rfl,g,hb,q⟩:=h;walk_at "n5";refine⟨by decide +kernel,u,G,rfl,g,?_⟩;walk_at "n5";refine cB (fun k Γ=>∃ s,Γ=[some (.fz (fD a G)),some (.fz (.int lo)),some (.fz (.int hi)),fo s]) ⟨none,rfl⟩ ?_ ?_
 ·rintro k d Γ hd ⟨s,rfl⟩;obtain⟨y,x,hy,hx,rfl⟩:=Hl hd;obtain⟨r,hr',lr,_⟩:=g.row hy;have hn:r[x]?=some r[x]:=gE0 (by omega);walk_at "n5";refine⟨by decide +kernel,u,G,y,x,r,r[x],rfl,g,hr',hn,?_⟩;walk_at "n5";refine⟨_,_,_,rfl,rfl,?_⟩;obtain⟨b1,b2⟩:=hb r (List.mem_of_getElem? hr') r[x] (List.mem_of_getElem? hn);rw[show whD (.int r[x]) lo hi=true by simp only[whD,Bool.and_eq_true,decide_eq_true_eq];exact⟨b1,b2⟩];walk_at "n5";exact⟨some _,rfl⟩
 ·rintro Γ ⟨s,rfl⟩;walk_at "n5";exact q
def Kr (a:Ad):S3:=fun Γ Q=>∃ (R:Rl) (ls:List Lt) (u:Nat) (G:LL0),Γ=[some (.fz (plD a R G.length u ls)),some (.fz (fD a G))]/\ls.length<=10/\GR u G/\(∀ r∈G,∀ n∈r,-100000<=n/\n<=100000)/\Q (.fz .non) Γ
theorem qf (T:Txt K mg a):aG P w K mg base CX0 6 a.j6 a.i_ ["plan","thing"] (sp3 K 2 (Kr a)):=by
 refine ok3 T.dk.F p9 (hbody:=fun cdv A outer s H E hr=>⟨_,_,(ai (fe (au (by rfl) (vh T) hr.dn (by rfl) T.fY.m T.fY.F.kp T.fY.b (aa (P3.opd (p3v 0)) (aa (P3.opd (p3v 1)) ab))))
   (ak (fe (au (by rfl) (rF T) hr.dn (by rfl) T.dO.m T.dO.F.kp T.dO.b (aa (P3.opd (p3v 1)) (aa (P3.opd (iO (P3.opd (iu (i:=100000) (by rfl) T.pK)))) (aa (P3.opd (iu (i:=100000) (by rfl) T.pK)) ab))))))),fun Γa Q h hl=>?_⟩)
 obtain⟨R,ls,u,G,rfl,hls,g,hb,q⟩:=h;walk_at "n5";refine⟨R,ls,u,G,rfl,hls,g,?_⟩;walk_at "n5";refine⟨u,G,_,_,rfl,g,hb,?_⟩;walk_at "n5";exact q
def Ll:S3:=fun Γ Q=>∃ (ns:Li0) (k:Int),Γ=[some (.fz (.scr ns)),some (.fz (.int k))]/\0<=k/\∀ r,Q (.fz (.int r)) Γ
theorem xx (T:Txt K mg a):aG P w K mg base CX0 1 a.q8 a.o7 ["_law_script","_law_k"] (sp3 K 2 Ll):=by
 refine ok3 T.ik.F w5 (hbody:=fun cdv A outer s H E hr=>⟨_,_,(ai (bh (aU Cu (bv 1) (P3.opd (aE (dJ (by rfl)) (by rfl) T.z_len (by decide +kernel) (aa (bv 0) ab))) (ba _)) (ak (av (aO (by rfl) (bv 0) (bv 1) (fun _ _=>rfl)))) aR)
   (ak (av (aH (P3.opd (ed (P3.opd af) (bv 1))) (P3.opd af))))),fun Γa Q h hl=>?_⟩)
 obtain⟨ns,k,rfl,hk,q⟩:=h;walk_at "n5";refine lQ (fun h=>?_) (fun h=>?_)
 ·walk_at "n5";exact⟨_,Iw hk (of_decide_eq_true h),q _⟩
 ·walk_at "n5";exact⟨.inl ⟨by decide,by decide⟩,q _⟩
def Box (c:Int) (d:D):Prop:=∃ x m k:Int,d=.lst [.int x,.int m,.int k]/\0<=x/\0<=m/\m < 2147483647/\0<=k/\k<=c
def Ng:S3:=fun Γ Q=>∃ (x:Int),Γ=[some (.fz (.int x))]/\∀ d,Box 0 d->Q (.fr d) Γ
theorem za (T:Txt K mg a):aG P w K mg base CX0 1 a.uM a.qP ["_law_cell_here"] (sp3 K 1 Ng):=by
 refine ok3 T.jq.F yU (hbody:=fun cdv A outer s H E hr=>⟨_,_,(ak (av (dD (ag (aE (Gj rfl) (by rfl) T.z_max (by decide +kernel) (aa (P3.opd af) (aa (P3.opd (cP (bv 0) (P3.opd (ER (v:=1000000000000000000) (by decide +kernel) ⟨by decide,by decide,by decide⟩)))) ab))) (ag (nE (bv 0) (P3.opd af)) (ag af az)))))),fun Γa Q h hl=>?_⟩);obtain⟨x,rfl,q⟩:=h;walk_at "n5";exact⟨by decide,by rw[sizeLine_eq];omega,q _ ⟨_,_,_,rfl,by unfold fmax;split <;> omega,Int.emod_nonneg _ (by decide),Int.emod_lt_of_pos _ (by decide),by decide,by decide⟩⟩
def JX:S3:=fun Γ Q=>∃ (d:D) (c n:Int),Γ=[some (.ln d),some (.fz (.int n))]/\Box c d/\c<=1000000/\0 < n/\n<=1000000000/\∀ r d',0<=r->r < n->Box (c + 1) d'->Q (.fz (.int r)) [some (.ln d'),some (.fz (.int n))]
theorem aV (T:Txt K mg a):aG P w K mg base CX0 1 a.qW a.oZ ["_law_box_here","_law_many"] (sp3 K 2 JX):=by
 refine ok3 T.ao.F dX (hbody:=fun cdv A outer s H E hr=>⟨_,_,(ai (bh (aU uU (P3.opd (aO (by rfl) (bv 0) (P3.opd af) (fun _ _=>rfl))) (P3.opd af) (ba _)) (ai (aN (i:=2) dX.nd rfl (Or.inl rfl) (nE (P3.opd (aO (by rfl) (bv 0) (P3.opd af) (fun _ _=>rfl))) (bv 1)))
   (ai (tT 0 (bv 0) (P3.opd af) (bM (P3.opd (aO (by rfl) (bv 0) (P3.opd af) (fun _ _=>rfl))) (bv 1)))
   (ak (av (tW 2))))) aR)
   (ai (tT 0 (bv 0) (P3.opd af) (aH (P3.opd (aO (by rfl) (bv 0) (P3.opd af) (fun _ _=>rfl))) (P3.opd af)))
   (ai (aN (i:=3) dX.nd rfl (Or.inl rfl) (aH (P3.opd (aH (P3.opd (ed (P3.opd (aO (by rfl) (bv 0) (P3.opd af) (fun _ _=>rfl))) (P3.opd (aH (P3.opd af) (P3.opd (ed (P3.opd af) (P3.opd (aO (by rfl) (bv 0) (P3.opd af) (fun _ _=>rfl))))))))) (P3.opd (ed (P3.opd af) (P3.opd (aO (by rfl) (bv 0) (P3.opd af) (fun _ _=>rfl))))))) (P3.opd af)))
   (ai (aN (i:=4) dX.nd rfl (Or.inl rfl) (nE (P3.opd (BS (bv 3) (P3.opd af))) (P3.opd af)))
   (ai (aN (i:=4) dX.nd rfl (Or.inl rfl) (nE (P3.opd (ed (P3.opd (aH (bv 4) (P3.opd (ed (P3.opd af) (P3.opd (aO (by rfl) (bv 0) (P3.opd af) (fun _ _=>rfl))))))) (P3.opd (aH (bv 4) (P3.opd af))))) (P3.opd af)))
   (ak (av (nE (P3.opd (bM (bv 4) (P3.opd af))) (bv 1))))))))),fun Γa Q h hl=>?_⟩)
 obtain⟨_,c,n,rfl,⟨x,m,k,rfl,hx,hm,hm2,hk,hk2⟩,hc,hn,hn2,q⟩:=h;walk_at "n5";refine lQ (fun e=>?_) (fun e=>?_)
 ·walk_at "n5";exact⟨hn,⟨hn,by omega⟩,q _ _ (Int.emod_nonneg _ (by omega)) (Int.emod_lt_of_pos _ hn) ⟨_,_,_,rfl,Int.ediv_nonneg hx (by omega),hm,hm2,hk,by omega⟩⟩
 ·walk_at "n5";have p1:0<=m * (48271 + 2 * (k + 1)):=Int.mul_nonneg hm (by omega);have p2:m * (48271 + 2 * (k + 1))<=2147483647 * (48271 + 2 * (k + 1)):=Int.mul_le_mul_of_nonneg_right (by omega) (by omega);refine⟨.inl ⟨by decide,by decide⟩,.inl ⟨by omega,by omega⟩,.inl ⟨by decide,by decide⟩,⟨by decide,by decide,?_⟩,?_⟩
  ·show (m * (48271 + 2 * (k + 1)) + 7919 * (k + 1) + 11).natAbs < 2 ^ 64;omega
  generalize hy:(m * (48271 + 2 * (k + 1)) + 7919 * (k + 1) + 11) ^ Int.toNat 5 % 2147483629=y;have hy0:0<=y:=by rw[<- hy];exact Int.emod_nonneg _ (by decide)
  have hy1:y < 2147483629:=by rw[<- hy];exact Int.emod_lt_of_pos _ (by decide)
  exact⟨by decide,.inl ⟨by decide,by decide⟩,.inr ⟨by omega,by omega⟩,by decide,⟨by decide,by decide⟩,hn,q _ _ (Int.emod_nonneg _ (by omega)) (Int.emod_lt_of_pos _ hn) ⟨_,_,_,rfl,hx,hm,hm2,by omega,by omega⟩⟩
theorem pick {p:D->Prop} {xs:List D} {r:Int} {k:D->Prop} {t:Tag k} (h0:0<=r) (h1:r < (xs.length:Int)) (hp:∀ x∈xs,p x) (q:∀ v,p v->k v):m1 (atI xs r) k t:=by
 obtain⟨d,h2,h3⟩:=IA h0 h1;exact b8.mpr ⟨d,h2,q d (hp d h3)⟩
theorem Box.up {c c':Int} {d:D} (b:Box c d) (h:c<=c'):Box c' d:=by
 obtain⟨x,m,k,e,h1,h2,h3,h4,h5⟩:=b;exact⟨x,m,k,e,h1,h2,h3,h4,Int.le_trans h5 h⟩
def GL:S3:=fun Γ Q=>∃ (d:D) (c:Int),Γ=[some (.ln d)]/\Box c d/\c<=900000/\∀ r d',-100000<=r->r<=100000->Box (c + 2) d'->Q (.fz (.int r)) [some (.ln d')]
theorem vi (T:Txt K mg a):aG P w K mg base CX0 2 a.pq a.mY ["_law_box_here"] (sp3 K 1 GL):=by
 refine ok3 T.fZ.F mM (hbody:=fun cdv A outer s H E hr=>⟨_,_,(ai (aN (i:=1) mM.nd rfl (Or.inl rfl) (au (by rfl) (aV T) hr.dn (by rfl) T.ao.m T.ao.F.kp T.ao.b (aa (bv 0) (aa (P3.opd af) ab))))
   (ai (bh (aU (jP (by rfl) hr) (bv 1) (P3.opd af) (ba _)) (ak (av (cP (P3.opd (au (by rfl) (aV T) hr.dn (by rfl) T.ao.m T.ao.F.kp T.ao.b (aa (bv 0) (aa (P3.opd af) ab)))) (P3.opd af)))) aR)
   (ai (bh (aU (jP (by rfl) hr) (bv 1) (P3.opd af) (ba _)) (ak (av (aO (by rfl) (P3.opd (dD (ag af (ag (iO (P3.opd af)) az)))) (P3.opd (au (by rfl) (aV T) hr.dn (by rfl) T.ao.m T.ao.F.kp T.ao.b (aa (bv 0) (aa (P3.opd af) ab)))) (fun _ _=>rfl)))) aR)
   (ak (av (cP (P3.opd (au (by rfl) (aV T) hr.dn (by rfl) T.ao.m T.ao.F.kp T.ao.b (aa (bv 0) (aa (P3.opd af) ab)))) (P3.opd af))))))),fun Γa Q h hl=>?_⟩)
 obtain⟨d,c,rfl,b,hc,q⟩:=h;walk_at "n5";refine⟨d,c,_,rfl,b,by omega,by decide,by decide,fun r d1 h0 h1 b1=>?_⟩;walk_at "n5";refine lQ (fun e=>?_) (fun e=>?_)
 ·walk_at "n5";refine⟨d1,c + 1,_,rfl,b1,by omega,by decide,by decide,fun r d2 h0 h1 b2=>?_⟩;walk_at "n5";exact q _ _ (by omega) (by omega) (b2.up (by omega))
 ·walk_at "n5";refine lQ (fun e=>?_) (fun e=>?_)
  ·walk_at "n5";refine⟨by rw[sizeLine_eq];omega,d1,c + 1,_,rfl,b1,by omega,by decide,by decide,fun r d2 h0 h1 b2=>?_⟩;walk_at "n5";refine pick (p:=fun d=>∃ n:Int,d=.int n/\-100000<=n/\n<=100000) h0 h1 (fun x hx=>?_) fun v hv=>?_
   ·simp only[List.mem_cons,List.not_mem_nil,or_false] at hx;rcases hx with rfl | rfl
    ·exact⟨_,rfl,by decide,by decide⟩
    ·exact⟨_,rfl,by decide,by decide⟩
   ·obtain⟨n,rfl,n1,n2⟩:=hv;walk_at "n5";exact q _ _ n1 n2 (b2.up (by omega))
  ·walk_at "n5";refine⟨d1,c + 1,_,rfl,b1,by omega,by decide,by decide,fun r d2 h0 h1 b2=>?_⟩;walk_at "n5";exact q _ _ (by omega) (by omega) (b2.up (by omega))
def GX:S3:=fun Γ Q=>∃ (d:D),Γ=[some (.ln d)]/\Box 0 d/\∀ h w d',vz h w->Box 10 d'->Q (.fz (pD h w)) [some (.ln d')]
theorem z1:1<=sizeLine:=by rw[sizeLine_eq];decide
theorem z2:2<=sizeLine:=by rw[sizeLine_eq];decide
theorem z3:3<=sizeLine:=by rw[sizeLine_eq];decide
theorem z0:0 < sizeLine:=by rw[sizeLine_eq];decide
theorem z4:4<=sizeLine:=by rw[sizeLine_eq];decide
theorem z6:6<=sizeLine:=by rw[sizeLine_eq];decide
theorem six {v:D} (h:v∈[D.tup [.int 64,.int 8],.tup [.int 8,.int 64],.tup [.int 1,.int 64],.tup [.int 64,.int 1],.tup [.int 22,.int 23],.tup [.int 17,.int 30]]):∃ h w,v=pD h w/\vz h w:=by
 simp only[List.mem_cons,List.not_mem_nil,or_false] at h;rcases h with rfl | rfl | rfl | rfl | rfl | rfl <;> exact⟨_,_,rfl,by decide,by decide,by decide,by decide,by decide⟩
theorem size_of {x y:Int} (h1:0<=x) (h2:x < 64) (h3:0<=y) (h4:y < fmin 64 (512 / (1 + x))):vz (1 + x) (1 + y):=by
 have e:fmin 64 (512 / (1 + x))<=64/\fmin 64 (512 / (1 + x))<=512 / (1 + x):=by unfold fmin;split <;> omega
 have e2:(1 + x) * (1 + y)<=(1 + x) * (512 / (1 + x)):=Int.mul_le_mul_of_nonneg_left (by omega) (by omega);have e3:(1 + x) * (512 / (1 + x))<=512:=Int.mul_ediv_self_le (by omega);exact⟨by omega,by omega,by omega,by omega,by omega⟩
theorem LN {x y:Int} (h1:0<=x) (h2:x < 9) (h3:0<=y) (h4:y < 9):vz (1 + x) (1 + y):=by
 have e2:(1 + x) * (1 + y)<=9 * 9:=Int.mul_le_mul (by omega) (by omega) (by omega) (by omega);exact⟨by omega,by omega,by omega,by omega,by omega⟩
theorem xu (T:Txt K mg a):aG P w K mg base CX0 2 a.qX a.o4 ["_law_box_here"] (sp3 K 1 GX):=by
 refine ok3 T.h_.F jv (hbody:=fun cdv A outer s H E hr=>⟨_,_,(ai (aN (i:=1) jv.nd rfl (Or.inl rfl) (au (by rfl) (aV T) hr.dn (by rfl) T.ao.m T.ao.F.kp T.ao.b (aa (bv 0) (aa (P3.opd af) ab))))
   (ai (bh (aU Cu (bv 1) (P3.opd af) (ba _)) (ak (av (aO (by rfl) (P3.opd (dD (ag (eN (ag af (ag af az))) (ag (eN (ag af (ag af az))) (ag (eN (ag af (ag af az))) (ag (eN (ag af (ag af az))) (ag (eN (ag af (ag af az))) (ag (eN (ag af (ag af az))) az)))))))) (bv 1) (fun _ _=>rfl)))) aR)
   (ai (bh (aU (jP (by rfl) hr) (bv 1) (P3.opd af) (ba _)) (ai (aN (i:=2) jv.nd rfl (Or.inl rfl) (aH (P3.opd af) (P3.opd (au (by rfl) (aV T) hr.dn (by rfl) T.ao.m T.ao.F.kp T.ao.b (aa (bv 0) (aa (P3.opd af) ab))))))
   (ak (av (eN (ag (p3v 2) (ag (aH (P3.opd af) (P3.opd (au (by rfl) (aV T) hr.dn (by rfl) T.ao.m T.ao.F.kp T.ao.b (aa (bv 0) (aa (P3.opd (aE (Gi rfl) (by rfl) T.z_min (by decide +kernel) (aa (P3.opd af) (aa (P3.opd (bM (P3.opd af) (bv 2))) ab)))) ab))))) az)))))) aR)
   (ak (av (eN (ag (aH (P3.opd af) (P3.opd (au (by rfl) (aV T) hr.dn (by rfl) T.ao.m T.ao.F.kp T.ao.b (aa (bv 0) (aa (P3.opd af) ab))))) (ag (aH (P3.opd af) (P3.opd (au (by rfl) (aV T) hr.dn (by rfl) T.ao.m T.ao.F.kp T.ao.b (aa (bv 0) (aa (P3.opd af) ab))))) az)))))))),fun Γa Q h hl=>?_⟩)
 obtain⟨d,rfl,hb,q⟩:=h;walk_at "n5";refine⟨_,_,12,rfl,hb,by decide,by decide,by decide,fun r1 d1 l1 u1 b1=>?_⟩;walk_at "n5";refine lQ (fun h=>?_) (fun h=>?_)
 ·simp -dsimp -implicitDefEqProofs only[↓zE,↓p5,↓wa,↓zG,↓ur,↓zA,↓h_c,↓zF,RV.d,List.length_cons,List.length_nil,Nat.zero_add,Nat.reduceAdd,↓v_,Gat,bJ,List.map_cons,List.map_nil,bW,newD,dd,Nat.reduceSub,List.replicate,List.cons_append,List.nil_append,List.mapIdx_cons,if_pos,Gx,Option.getD_some,reduceCtorEq,if_false,Gw,List.mapIdx_nil,RV.sl,List.set_cons_succ,List.set_cons_zero,List.getElem?_cons_succ,List.getElem?_cons_zero,Option.some.injEq,exists_eq',Bo.at,l9,↓zu,true_and];have h':r1 < 6:=of_decide_eq_true h;refine⟨z2,z2,z2,z2,z2,z2,z6,pick l1 h' (fun v hv=>six hv) (fun v hv=>?_)⟩;obtain⟨h,w,rfl,sz⟩:=hv;walk_at "n5";exact q _ _ _ sz (b1.up (by decide))
 ·walk_at "n5";refine lQ (fun h=>?_) (fun h=>?_)
  ·walk_at "n5";refine⟨_,_,64,rfl,b1,by decide,by decide,by decide,fun r2 d2 l2 u2 b2=>?_⟩;walk_at "n5";have p:1<=512 / (1 + r2):=Int.le_ediv_of_mul_le (by omega) (by omega);refine⟨⟨by omega,by omega⟩,_,_,_,rfl,b2,by decide,by unfold fmin;split <;> omega,by unfold fmin;split <;> omega,fun r3 d3 l3 u3 b3=>?_⟩;walk_at "n5";exact⟨z2,q _ _ _ (size_of l2 u2 l3 u3) (b3.up (by decide))⟩
  ·walk_at "n5";refine⟨_,_,9,rfl,b1,by decide,by decide,by decide,fun r2 d2 l2 u2 b2=>?_⟩;walk_at "n5";refine⟨_,_,9,rfl,b2,by decide,by decide,by decide,fun r3 d3 l3 u3 b3=>?_⟩;walk_at "n5";exact⟨z2,q _ _ _ (LN l2 u2 l3 u3) (b3.up (by decide))⟩
theorem FF {S:Li0} (h:1<=S.length):cut (S.map D.int) none (some 1)=(S.take 1).map D.int:=yl (n:=1) h
theorem Fj {S:Li0} (h:1<=S.length):cut (S.map D.int) (some (-1)) none=(S.drop (S.length - 1)).map D.int:=by
 have e:HT.sIx (S.map D.int).length 0 (some (-1))=S.length - 1:=by
  simp only[HT.sIx,lM0];split <;> omega
 unfold cut;rw[e,HT.tS,List.take_of_length_le (by rw[List.length_drop];omega),List.map_drop]
theorem ahead {S:Li0} {k:Nat} (h:k < S.length):(S.take 1++S)[k]?=some (nrF S ((k:Int) - 1)):=by
 have l1:(S.take 1).length=1:=by rw[List.length_take];omega
 unfold nrF;cases k with
 | zero=>
  rw[List.getElem?_append_left (by omega),List.getElem?_take_of_lt (by omega),gE0 h];have e:(fmin (fmax (((0:Nat):Int) - 1) 0) ((S.length:Int) - 1)).toNat=0:=by unfold fmin fmax;split <;> split <;> omega
  rw[e];simp [List.getD,h]
 | succ j=>
  rw[List.getElem?_append_right (by omega),l1,Nat.add_sub_cancel,gE0 (by omega)];have e:(fmin (fmax (((j + 1:Nat):Int) - 1) 0) ((S.length:Int) - 1)).toNat=j:=by unfold fmin fmax;split <;> split <;> omega
  rw[e];simp [List.getD,show j < S.length by omega]
theorem behind {S:Li0} {k:Nat} (h:k < S.length):(S++S.drop (S.length - 1))[k + 1]?=some (nrF S ((k:Int) + 1)):=by
 unfold nrF;by_cases hk:k + 1 < S.length
 ·rw[List.getElem?_append_left hk,gE0 hk];have e:(fmin (fmax ((k:Int) + 1) 0) ((S.length:Int) - 1)).toNat=k + 1:=by unfold fmin fmax;split <;> split <;> omega
  rw[e];simp [List.getD,hk]
 ·have hk':k + 1=S.length:=by omega
  rw[List.getElem?_append_right (by omega),List.getElem?_drop,show S.length - 1 + (k + 1 - S.length)=k by omega,gE0 h];have e:(fmin (fmax ((k:Int) + 1) 0) ((S.length:Int) - 1)).toNat=k:=by unfold fmin fmax;split <;> split <;> omega
  rw[e];simp [List.getD,h]
def Fg:S3:=fun Γ Q=>∃ (S:Li0) (k:Nat),Γ=[some (.fz (il S)),some (.fz (.int k))]/\k < S.length/\S.length<=64/\Q (.fz (.int (iR S k))) Γ
theorem vj (T:Txt K mg a):aG P w K mg base CX0 1 a.pw a.m4 ["_law_sums","_law_at"] (sp3 K 2 Fg):=by
 refine ok3 T.f_.F vb (hbody:=fun cdv A outer s H E hr=>⟨_,_,(ak (av (bM (P3.opd (aH (P3.opd (cP (P3.opd (aO (by rfl) (P3.opd (aH (P3.opd (cA (by rfl) (bv 0) bp (aX (P3.opd af)))) (bv 0))) (bv 1) (fun _ _=>rfl))) (P3.opd (aO (by rfl) (P3.opd (aH (bv 0) (P3.opd (cA (by rfl) (bv 0) (aX (P3.opd (iO (P3.opd af)))) bp)))) (P3.opd (aH (bv 1) (P3.opd af))) (fun _ _=>rfl))))) (P3.opd af))) (P3.opd af)))),fun Γa Q h hl=>?_⟩);obtain⟨S,k,rfl,hk,h64,q⟩:=h;walk_at "n5";rw[FF (by omega)];refine⟨by rw[lM0,lM0,List.length_take,sizeLine_eq];omega,b8.mpr ⟨.int (nrF S ((k:Int) - 1)),a8 (by omega) (by rw[<- List.map_append,List.getElem?_map,Int.toNat_natCast,ahead hk];rfl),?_⟩⟩;walk_at "n5";rw[Fj (by omega)];refine⟨by rw[lM0,lM0,List.length_drop,sizeLine_eq];omega,b8.mpr ⟨.int (nrF S ((k:Int) + 1)),a8 (by omega) (by rw[<- List.map_append,List.getElem?_map,show ((k:Int) + 1).toNat=k + 1 by omega,behind hk];rfl),?_⟩⟩;walk_at "n5";exact⟨⟨by decide,by decide⟩,q⟩
theorem Lp {S:Li0} {k:Nat} (h1:1<=S.length) (h:k<=S.length):(S.take 1++S)[k]?=some (nrF S ((k:Int) - 1)):=by
 by_cases hk:k < S.length
 ·exact ahead hk
 ·have l1:(S.take 1).length=1:=by rw[List.length_take];omega
  unfold nrF;rw[List.getElem?_append_right (by omega),l1,gE0 (by omega)];have e:(fmin (fmax ((k:Int) - 1) 0) ((S.length:Int) - 1)).toNat=k - 1:=by unfold fmin fmax;split <;> split <;> omega
  rw[e];simp [List.getD,show k - 1 < S.length by omega]
theorem Im {S:Li0} {k:Nat} (h1:1<=S.length) (h:k<=S.length):(S++S.drop (S.length - 1))[k]?=some (nrF S (k:Int)):=by
 cases k with
 | zero=>
  unfold nrF;rw[List.getElem?_append_left (by omega),gE0 (by omega)];have e:(fmin (fmax (((0:Nat):Int)) 0) ((S.length:Int) - 1)).toNat=0:=by unfold fmin fmax;split <;> split <;> omega
  rw[e];simp [List.getD,show 0 < S.length by omega]
 | succ j=>
  have b:=behind (S:=S) (k:=j) (by omega);rw[b,show ((j + 1:Nat):Int)=(j:Int) + 1 by omega]
noncomputable def plG (ones others:Li0):Li0:=(List.range others.length).map fun j=>others.getD j 0 - gg ones j
noncomputable def smG (ones plain:Li0):Li0:=(List.range ones.length).map fun j=>ones.getD j 0 + gM plain j
def Fh:S3:=fun Γ Q=>∃ (F S:Li0),Γ=[some (.fz (il F)),some (.fz (il S))]/\1<=S.length/\S.length<=F.length/\F.length<=S.length + 1/\F.length<=64/\Q (.fr (il (smG F (plG F S)++plG F S))) Γ
noncomputable def c8 (rows:LL0) (x:Nat):Li0:=rows.map fun r=>r.getD x 0
noncomputable def eB (u:Nat) (rows:LL0):LL0:=(List.range u).map (c8 rows)
structure Sz (h w:Nat) (rows:LL0):Prop where
 hh:rows.length=h
 ww:∀ r∈rows,r.length=w
def JW:S3:=fun Γ Q=>∃ (h w:Nat) (rows:LL0),Γ=[some (.fz (rD rows))]/\Sz h w rows/\1<=h/\h<=64/\w<=64/\Q (.fr (rD (eB w rows))) Γ
theorem Sz.at0 {h w:Nat} {rows:LL0} (s:Sz h w rows) (h1:1<=h):∃ r,rows[0]?=some r/\r.length=w:=by
 have hh:=s.hh;exact⟨rows[0],gE0 (by omega),s.ww _ (List.getElem_mem _)⟩
theorem vT (T:Txt K mg a):aG P w K mg base CX0 1 a.zL a.wj ["rows"] (sp3 K 1 JW):=by
 refine ok3 T.gw.F CS (hbody:=fun cdv A outer s H E hr=>⟨_,_,(ak (av (bC rfl (bc (by rfl) T.z_range (ag (aE (dJ (by rfl)) (by rfl) T.z_len (by decide +kernel) (aa (P3.opd (aO (by rfl) (bv 0) (P3.opd af) (fun _ _=>rfl))) ab)) az)) pN (fun _ _ _ _ _=>(aQ (i:=0) pN.nd rfl (Or.inr rfl))) (fun _ _ _ _ _=>(bC rfl (cf (by rfl) (p3v 1)) pM (fun _ _ _ _ _=>(aQ (i:=0) pM.nd rfl (Or.inl rfl))) (fun _ _ _ _ _=>(aO (by rfl) (bv 0) (bv 1) (fun _ _=>rfl)))))))),fun Γa Q h hl=>?_⟩);obtain⟨h,w,rows,rfl,sz,h1,h64,w64,q⟩:=h;obtain⟨r0,e0,l0⟩:=sz.at0 h1;have hh:=sz.hh;walk_at "n5";refine b8.mpr ⟨il r0,a8 (by decide) (by rw[List.getElem?_map,show (Int.toNat 0)=0 from rfl,e0];rfl),?_⟩;walk_at "n5";rw[lM0,l0];refine⟨by omega,by omega,small (by rw[bj];omega),aS (fun k ys Γc=>ys=(List.range k).map (fun x=>il (c8 rows x))/\∃ s,Γc=[fo s,some (.fz (rD rows))]) ⟨rfl,none,rfl⟩ ?_ ?_⟩
 ·rintro k d ys Γc hd hk ⟨rfl,s,rfl⟩;obtain⟨lt,rfl⟩:=ck hd;walk_at "n5";refine⟨small (by rw[lM0];omega),aS (fun j ys Γc=>ys=(rows.take j).map (fun r=>D.int (r.getD k 0))/\∃ s,Γc=[fo s,some (.fz (.int (0 + (k:Int))))]) ⟨rfl,none,rfl⟩ ?_ ?_⟩
  ·rintro j d ys Γc hd hj ⟨rfl,s,rfl⟩;obtain⟨r,hr',rfl⟩:=fO hd;have lr:=sz.ww r (List.mem_of_getElem? hr');walk_at "n5";refine b8.mpr ⟨.int (r.getD k 0),a8 (by omega) (by rw[show (0 + (k:Int)).toNat=k by omega,List.getElem?_map,gE0 (by omega)];simp [List.getD,show k < r.length by omega]),?_⟩;exact⟨by rw[take_snoc hr',List.map_append];rfl,some _,rfl⟩
  ·rintro ys Γc hj ⟨rfl,s,rfl⟩;walk_at "n5";refine⟨?_,some _,rfl⟩;rw[List.take_of_length_le (by rw[lM0];exact Nat.le_refl _),<- snoc (f:=fun x=>il (c8 rows x)) rfl];unfold c8;rw[il,List.map_map];rfl
 ·rintro ys Γc hk ⟨rfl,s,rfl⟩;walk_at "n5";rw[bj,Int.toNat_natCast];rw[show (List.range w).map (fun x=>il (c8 rows x))=(eB w rows).map il by unfold eB;rw[List.map_map];rfl];exact q
def Bd (B:Int) (ns:Li0):Prop:=∀ n∈ns,-B<=n/\n<=B
theorem fP {ns:Li0} {B:Int} (h0:0<=B) (h:Bd B ns) (k:Nat):-B<=ns.getD k 0/\ns.getD k 0<=B:=by
 by_cases lt:k < ns.length
 ·have:ns.getD k 0=ns[k]:=by simp [List.getD,lt]
  rw[this];exact h _ (List.getElem_mem lt)
 ·have:ns.getD k 0=0:=by simp [List.getD,lt]
  rw[this];omega
theorem vL {f:Nat->Int} {k:Nat} {B:Int} (h:∀ j,-B<=f j/\f j<=B):Bd B (rg f k):=fun n hn=>by
 unfold rg at hn;obtain⟨j,_,rfl⟩:=List.mem_map.mp hn;exact h j
theorem nj {ns:Li0} {B C:Int} (h:Bd B ns) (le:B<=C):Bd C ns:=fun n hn=>by have:=h n hn;omega
theorem yC {xs ys:Li0} {B:Int} (h:Bd B xs) (h':Bd B ys):Bd B (xs++ys):=fun n hn=>by
 rcases List.mem_append.mp hn with q | q
 ·exact h n q
 ·exact h' n q
theorem yN {p:Int->Int->Int} {l:Int->Int} {ns:Li0} {B C:Int} (h0:0<=B) (h:Bd B ns) (hp:∀ x y,-B<=x->x<=B->-B<=y->y<=B->-C<=p x y/\p x y<=C) (hl:∀ x,-B<=x->x<=B->-C<=l x/\l x<=C):Bd C (cp p l ns):=by
 refine yC (vL fun j=>?_) ?_
 ·have a:=fP h0 h (2 * j);have b:=fP h0 h (2 * j + 1);exact hp _ _ a.1 a.2 b.1 b.2
 ·split
  ·intro n hn;have e:n=l (ns.getD (ns.length - 1) 0):=by simpa using hn
   subst e;have a:=fP h0 h (ns.length - 1);exact hl _ a.1 a.2
  ·intro n hn;cases hn
theorem xY {ns:Li0} {B:Int} (h0:0<=B) (h:Bd B ns):Bd (2 * B) (i8 ns):=vL fun j=>by
 have a:=fP h0 h (2 * j);have b:=fP h0 h (2 * j + 1);omega
theorem FD {ns:Li0} {B:Int} (h0:0<=B) (h:Bd B ns):Bd B (fsF ns):=vL fun j=>fP h0 h (2 * j)
theorem yj {ns:Li0} {B:Int} (h0:0<=B) (h:Bd B ns):Bd (2 * B) (pB (fsF ns) ns):=vL fun j=>by
 have a:=fP h0 h (2 * j + 1);have b:=fP h0 (FD h0 h) j;have c:-B<=nrF (fsF ns) ((j:Int) + 1)/\nrF (fsF ns) ((j:Int) + 1)<=B:=fP h0 (FD h0 h) _;omega
theorem sE {ns:Li0} {B:Int} (h0:0<=B) (h:Bd B ns):Bd B (cp Rl.lean.pair Rl.lean.kg ns):=yN h0 h (fun x y a b c d=>by show -B<=(x + y) / 2/\(x + y) / 2<=B;omega) fun x a b=>⟨a,b⟩
theorem GS (R:Rl) {ns:Li0} {B:Int} (h1:1<=B) (h:Bd B ns):Bd (3 * B) (R.sums ns):=by
 have h0:0<=B:=by omega
 cases R with
 | sum=>exact yN h0 h (fun x y a b c d=>by show -(3 * B)<=x + y/\x + y<=3 * B;omega) fun x a b=>by show -(3 * B)<=2 * x/\2 * x<=3 * B;omega
 | half=>exact nj (sE h0 h) (by omega)
 | lean=>exact nj (sE h0 h) (by omega)
 | guess=>
  refine vL fun j=>?_;have a:=fP h0 (FD h0 h) j;have d0:0<=2 * B:=by omega
  have b:-(2 * B)<=nrF (pB (fsF ns) ns) ((j:Int) - 1)/\nrF (pB (fsF ns) ns) ((j:Int) - 1)<=2 * B:=fP d0 (yj h0 h) _;have c:-(2 * B)<=nrF (pB (fsF ns) ns) (j:Int)/\nrF (pB (fsF ns) ns) (j:Int)<=2 * B:=fP d0 (yj h0 h) _;unfold gM;omega
theorem Lj (R:Rl) {ns:Li0} {B:Int} (h1:1<=B) (h:Bd B ns):Bd (3 * B) (R.dif ns):=by
 have h0:0<=B:=by omega
 cases R with
 | sum=>exact nj (xY h0 h) (by omega)
 | half=>exact nj (xY h0 h) (by omega)
 | guess=>exact nj (yj h0 h) (by omega)
 | lean=>
  refine vL fun j=>?_;have a:=fP (show 0<=2 * B by omega) (xY h0 h) j;have b:-B<=nrF (cp Rl.lean.pair Rl.lean.kg ns) ((j:Int) - 1)/\nrF (cp Rl.lean.pair Rl.lean.kg ns) ((j:Int) - 1)<=B:=fP h0 (sE h0 h) _;have c:-B<=nrF (cp Rl.lean.pair Rl.lean.kg ns) ((j:Int) + 1)/\nrF (cp Rl.lean.pair Rl.lean.kg ns) ((j:Int) + 1)<=B:=fP h0 (sE h0 h) _;unfold iR;omega
theorem nY (R:Rl) (ns:Li0):(R.sums ns).length=(ns.length + 1) / 2:=by
 have z:∀ (p:Int->Int->Int) (l:Int->Int),(cp p l ns).length=(ns.length + 1) / 2:=fun p l=>by
  unfold cp;rw[List.length_append,dC];split <;> simp <;> omega
 cases R with
 | guess=>exact dC _ _
 | _=>exact z _ _
theorem uP (R:Rl) (ns:Li0):(R.dif ns).length=ns.length / 2:=by cases R <;> exact dC _ _
theorem zx {R:Rl} {ns:Li0} {m:Nat} (h:m<=ns.length):(gP R ns m).length=ns.length:=by
 unfold gP;rw[List.length_append,List.length_append,nY,uP,List.length_take,List.length_drop];omega
theorem wO {ns:Li0} {B:Int} (h:Bd B ns) (m:Nat):Bd B (ns.take m):=fun n hn=>h n (List.mem_of_mem_take hn)
theorem H9 {R:Rl} {ns:Li0} {m:Nat} {B:Int} (h1:1<=B) (h:Bd B ns):Bd (3 * B) (gP R ns m):=
 yC (yC (GS R h1 (wO h m)) (Lj R h1 (wO h m))) fun n hn=>nj h (show B<=3 * B by omega) n (List.mem_of_mem_drop hn)
def BdR (B:Int) (rows:LL0):Prop:=∀ r∈rows,Bd B r
theorem v5 {R:Rl} {rows:LL0} {h m:Nat} {r:Li0} (hr:r∈cq R rows h m):r∈rows\/∃ r'∈rows,r=gP R r' m:=by
 unfold cq at hr;rcases List.mem_append.mp hr with q | q
 ·obtain⟨r',h1,rfl⟩:=List.mem_map.mp q;exact .inr ⟨r',List.mem_of_mem_take h1,rfl⟩
 ·exact .inl (List.mem_of_mem_drop q)
theorem ft {R:Rl} {rows:LL0} {H W h m:Nat} (s:Sz H W rows) (hm:m<=W):Sz H W (cq R rows h m):=⟨by
 unfold cq;rw[List.length_append,lM0,List.length_take,List.length_drop,s.hh];omega,fun r hr=>by
 rcases v5 hr with q | ⟨r',q,rfl⟩
 ·exact s.ww r q
 ·rw[zx (by rw[s.ww r' q];exact hm)];exact s.ww r' q⟩
theorem kY {R:Rl} {rows:LL0} {h m:Nat} {B:Int} (h1:1<=B) (b:BdR B rows):BdR (3 * B) (cq R rows h m):=fun r hr=>by
 rcases v5 hr with q | ⟨r',q,rfl⟩
 ·exact nj (b r q) (by omega)
 ·exact H9 h1 (b r' q)
theorem lV {rows:LL0} {H W:Nat} (s:Sz H W rows):Sz W H (eB W rows):=⟨by unfold eB;simp,fun r hr=>by
 unfold eB c8 at hr;obtain⟨x,_,rfl⟩:=List.mem_map.mp hr;rw[lM0];exact s.hh⟩
theorem lW {rows:LL0} {W:Nat} {B:Int} (h0:0<=B) (b:BdR B rows):BdR B (eB W rows):=fun r hr=>by
 unfold eB c8 at hr;obtain⟨x,_,rfl⟩:=List.mem_map.mp hr;intro n hn;obtain⟨r',h1,rfl⟩:=List.mem_map.mp hn;exact fP h0 (b r' h1) x
noncomputable def mK (R:Rl) (H W:Nat) (l:Lt) (h w:Nat) (rows:LL0):LL0:=match l with
 | .r=>cq R rows h w
 | .p=>eB H (cq R (eB W rows) w h)
 | .b=>eB H (cq R (eB W (cq R rows h w)) w h)
theorem D2 {R:Rl} {H W:Nat} {l:Lt} {h w:Nat} {rows:LL0} (s:Sz H W rows) (hh:h<=H) (hw:w<=W):Sz H W (mK R H W l h w rows):=by
 cases l with
 | r=>exact ft s hw
 | p=>exact lV (ft (lV s) hh)
 | b=>exact lV (ft (lV (ft s hw)) hh)
theorem D4 {R:Rl} {H W:Nat} {l:Lt} {h w:Nat} {rows:LL0} {B:Int} (h1:1<=B) (b:BdR B rows):BdR (9 * B) (mK R H W l h w rows):=by
 cases l with
 | r=>exact fun r hr=>nj (kY h1 b r hr) (by omega)
 | p=>exact fun r hr=>nj (lW (by omega) (kY h1 (lW (by omega) b)) r hr) (by omega)
 | b=>exact fun r hr=>nj (lW (by omega) (kY (by omega) (lW (by omega) (kY h1 b))) r hr) (show 3 * (3 * B)<=9 * B by omega)
theorem Br {ns:Li0} {B:Int} (h:Bd B ns) (hB:B < 1000000000000000):Fig ns:=fun n hn=>by have:=h n hn;omega
theorem oR {R:Rl} {rows:LL0} {H W h m:Nat} {B:Int} (s:Sz H W rows) (b:BdR B rows) (hB:B < 1000000000000000) (hm:m<=W) (hW:W<=64) :
  ∀ r∈rows.take h,Fig (r.take m)/\m<=r.length/\r.length<=64/\(gP R r m).length<=1000:=fun r hr=>by
 have q:=List.mem_of_mem_take hr;have e:=s.ww r q;exact⟨Br (wO (b r q) m) hB,by omega,by omega,by rw[zx (by omega)];omega⟩
theorem KY {ls:List Lt} {k:Nat} {l:Lt} (hk:ls[k]?=some l) {kk:Nat->Prop} {t:Tag kk} (h:kk l.c):mC (atI (wy ls).cps.toList (k:Int)) kk t:=by
 have e:atI (wy ls).cps.toList (k:Int)=some l.c:=by have:=yD (f:=Lt.c) (atL hk);simpa [wy] using this
 exact⟨_,e,h⟩
def GU (a:Ad) (o:Unit->Obj) (f:Addr) (v:V):S3:=fun Γ Q=>∃ (R:Rl) (h w:Int) (ls:List Lt) (rows:LL0) (k:Nat) (l:Lt) (H W ch cw:Nat) (B:Int),
 Γ=[some (.fz (plD a R h w ls)),some (.fz (.fn o f v (R.ob a))),some (.fz (rD rows)),some (.fz (.int k))]/\ls.length<=10/\ls[k]?=some l/\cat h w ls k=((ch:Int),(cw:Int))/\Can l ch cw/\Sz H W rows/\1<=H/\H<=64/\1<=W/\W<=64/\ch<=H/\cw<=W/\BdR B rows/\1<=B/\3 * B < 1000000000000000/\
 Q (.fr (rD (mK R H W l ch cw rows))) Γ
theorem vf {o:Unit->Obj} {f:Addr} {v:V} (T:Txt K mg a) (L:LA base o f v):aG P w K mg base CX0 8 a.o_ a.mU ["plan","part","rows","step"] (sp3 K 4 (GU a o f v)):=by
 refine ok3 T.fW.F cC (hbody:=fun cdv A outer s H E hr=>⟨_,_,(ai (n_ (is:=[4,5]) (by rfl) (bB (by rfl) (bv 0) T.cg T.ui (t_ T) hr.dn T.mH.b (aa (P3.opd (p3v 3)) ab)) (aJ (aP (i:=4) cC.nd rfl (Or.inl rfl)) (aJ (aP (i:=5) cC.nd rfl (Or.inl rfl)) bZ)) rfl)
   (ai (aN (i:=6) cC.nd rfl (Or.inl rfl) (aO (by rfl) (P3.opd (aZ (by rfl) (bv 0) T.cg T.zi (zb T) hr.dn T.sU.b)) (bv 3) (fun _ _=>rfl)))
   (ai (bh (aU (q9 (by rfl)) (bv 6) (P3.opd (ir (p:=a.bL) (zs:=["r","b"]) (by rfl) T.gj)) (by with_unfolding_all rfl)) (ak (aN (i:=2) cC.nd rfl (Or.inl rfl) (au (by rfl) (mO T L) hr.dn (by rfl) T.cu.m T.cu.F.kp T.cu.b (aa (P3.opd (p3v 1)) (aa (P3.opd (p3v 2)) (aa (P3.opd (p3v 4)) (aa (P3.opd (p3v 5)) ab))))))) aR)
   (ai (bh (aU (q9 (by rfl)) (bv 6) (P3.opd (ir (p:=a.a_) (zs:=["p","b"]) (by rfl) T.dq)) (by with_unfolding_all rfl)) (ak (aN (i:=2) cC.nd rfl (Or.inl rfl) (au (by rfl) (vT T) hr.dn (by rfl) T.gw.m T.gw.F.kp T.gw.b (aa (P3.opd (au (by rfl) (mO T L) hr.dn (by rfl) T.cu.m T.cu.F.kp T.cu.b (aa (P3.opd (p3v 1)) (aa (P3.opd (au (by rfl) (vT T) hr.dn (by rfl) T.gw.m T.gw.F.kp T.gw.b (aa (P3.opd (p3v 2)) ab))) (aa (P3.opd (p3v 5)) (aa (P3.opd (p3v 4)) ab)))))) ab)))) aR)
   (ak (av (tW 2))))))),fun Γa Q h hl=>?_⟩)
 obtain⟨R,h,w,ls,rows,k,l,H,W,ch,cw,B,rfl,hls,hk,hc,⟨c1,c2⟩,sz,H1,H2,W1,W2,lh,lw,bd,B1,B2,q⟩:=h;have lk:=gN hk;have hl64:=sz.hh;walk_at "n7";refine⟨by decide +kernel,R,h,w,ls,k,rfl,hls,by omega,?_⟩;rw[hc];unfold cD;walk_at "n7";refine⟨by decide +kernel,R,h,w,ls,rfl,hls,?_⟩;walk_at "n7";refine⟨by rw[cx,sizeLine_eq];omega,KY hk ?_⟩;dsimp only;rw[show (⟨#[l.c]⟩:Str)=l.s from rfl];walk_at "n7";have n1:1<=(3 * B):=by omega
 have sT:=lV sz;have bT:BdR B (eB W rows):=lW (by omega) bd;cases l
 ·walk_at "n7";refine⟨R,rows,ch,cw,rfl,by omega,by omega,by have:=c1 (by decide);omega,oR sz bd (by omega) lw W2,?_⟩;walk_at "n7";exact q
 ·walk_at "n7";refine⟨H,W,rows,rfl,sz,H1,H2,W2,?_⟩;walk_at "n7";refine⟨R,eB W rows,cw,ch,rfl,by rw[sT.hh];exact W2,by rw[sT.hh];exact lw,by have:=c2 (by decide);omega,oR sT bT (by omega) lh H2,?_⟩;walk_at "n7";refine⟨W,H,_,rfl,ft sT lh,W1,W2,H2,?_⟩;walk_at "n7";exact q
 ·walk_at "n7";refine⟨R,rows,ch,cw,rfl,by omega,by omega,by have:=c1 (by decide);omega,oR sz bd (by omega) lw W2,?_⟩;have s1:=ft (R:=R) (h:=ch) sz lw;have s2:=lV s1;have b1:=kY (R:=R) (h:=ch) (m:=cw) B1 bd;walk_at "n7";refine⟨H,W,_,rfl,s1,H1,H2,W2,?_⟩;walk_at "n7";refine⟨R,eB W (cq R rows ch cw),cw,ch,rfl,by rw[s2.hh];exact W2,by rw[s2.hh];exact lw,by have:=c2 (by decide);omega,oR s2 (lW (by omega) b1) (by omega) lh H2,?_⟩;walk_at "n7";refine⟨W,H,_,rfl,ft s2 lh,W1,W2,H2,?_⟩;walk_at "n7";exact q
noncomputable def cN (h w:Int) (ls:List Lt) (k:Nat):Nat×Nat:=((cat h w ls k).1.toNat,(cat h w ls k).2.toNat)
noncomputable def stK (R:Rl) (h w:Int) (ls:List Lt) (rows:LL0):Nat->LL0
 | 0=>rows
 | k + 1=>mK R h.toNat w.toNat (ls.getD k .r) (cN h w ls k).1 (cN h w ls k).2 (stK R h w ls rows k)
structure Pl (h w:Int) (ls:List Lt):Prop where
 sz:vz h w
 good:Good h w ls
 len:ls.length<=10
theorem Pl.cn {h w:Int} {ls:List Lt} (p:Pl h w ls) {k:Nat} (hk:k<=ls.length):cat h w ls k=(((cN h w ls k).1:Int),((cN h w ls k).2:Int))/\(cN h w ls k).1<=h.toNat/\(cN h w ls k).2<=w.toNat/\1<=(cN h w ls k).1/\1<=(cN h w ls k).2:=by
 obtain⟨a,b,c,d⟩:=yq p.good p.sz.h1 p.sz.w1 hk;unfold cN;refine⟨Prod.ext ?_ ?_,?_,?_,?_,?_⟩ <;> dsimp only <;> omega
theorem p6 {R:Rl} {h w:Int} {ls:List Lt} {rows:LL0} (p:Pl h w ls) (s:Sz h.toNat w.toNat rows):∀ {k:Nat},k<=ls.length->Sz h.toNat w.toNat (stK R h w ls rows k)
 | 0,_=>s
 | k + 1,hk=>by
  obtain⟨_,a,b,_,_⟩:=p.cn (k:=k) (by omega);exact D2 (p6 p s (by omega)) a b
noncomputable def bK (k:Nat):Int:=100000 * 9 ^ k
theorem Nk (k:Nat):1<=bK k:=by
 unfold bK;have:(0:Int) < 9 ^ k:=Int.pow_pos (by decide);omega
theorem NM (k:Nat):bK (k + 1)=9 * bK k:=by unfold bK;rw[Int.pow_succ];omega
theorem Ni {k:Nat} (h:k<=10):3 * bK k < 1000000000000000\/k=10:=by
 rcases k with _ | _ | _ | _ | _ | _ | _ | _ | _ | _ | _ | k
 iterate 10 exact .inl (by decide)
 ·exact .inr rfl
 ·omega
theorem Nj {k:Nat} (h:k<=10):bK k < 1000000000000000:=by
 rcases k with _ | _ | _ | _ | _ | _ | _ | _ | _ | _ | _ | k
 iterate 11 decide
 omega
theorem Ao {R:Rl} {h w:Int} {ls:List Lt} {rows:LL0} (b:BdR 100000 rows):∀ k:Nat,BdR (bK k) (stK R h w ls rows k)
 | 0=>b
 | k + 1=>by rw[NM];exact D4 (Nk k) (Ao b k)
noncomputable abbrev nr (R:Rl) (h w:Int) (ls:List Lt) (rows:LL0):LL0:=stK R h w ls rows ls.length
def D0 (a:Ad) (o:Unit->Obj) (f:Addr) (v:V):S3:=fun Γ Q=>∃ (R:Rl) (h w:Int) (ls:List Lt) (rows:LL0),Γ=[some (.fz (plD a R h w ls)),some (.fz (.fn o f v (R.ob a))),some (.fz (rD rows))]/\Pl h w ls/\Sz h.toNat w.toNat rows/\BdR 100000 rows/\
 Q (.fz (rD (nr R h w ls rows))) Γ
theorem tY {o:Unit->Obj} {f:Addr} {v:V} (T:Txt K mg a) (L:LA base o f v):aG P w K mg base CX0 9 a.m8 a.k7 ["plan","part","rows"] (sp3 K 3 (D0 a o f v)):=by
 refine ok3 T.e9.F gB (hbody:=fun cdv A outer s H E hr=>⟨_,_,(ai (fG PassesOwn.never rfl (bc (by rfl) T.z_range (ag (aZ (by rfl) (bv 0) T.cg T.mR (mQ T) hr.dn T.jr.b) az)) (aQ (i:=3) gB.nd rfl (Or.inl rfl))
   (ak (aN (i:=2) gB.nd rfl (Or.inl rfl) (tX (au (by rfl) (vf T L) hr.dn (by rfl) T.fW.m T.fW.F.kp T.fW.b (aa (P3.opd (p3v 0)) (aa (P3.opd (p3v 1)) (aa (P3.opd (p3v 2)) (aa (P3.opd (p3v 3)) ab)))))))))
   (ak (av (tW 2)))),fun Γa Q h hl=>?_⟩)
 obtain⟨R,h,w,ls,rows,rfl,p,sz,bd,q⟩:=h;have hls:=p.len;obtain⟨s1,s2,s3,s4,s5⟩:=p.sz;walk_at "n7";refine⟨by decide +kernel,R,h,w,ls,rfl,hls,?_⟩;walk_at "n7";refine⟨by omega,by omega,cB (fun k Γ=>k<=ls.length/\∃ s,Γ=[some (.fz (plD a R h w ls)),some (.fz (.fn o f v (R.ob a))),some (.fz (rD (stK R h w ls rows k))),fo s]) ⟨Nat.zero_le _,none,rfl⟩ ?_ ?_⟩
 ·rintro k d Γ hd ⟨hk,s,rfl⟩;obtain⟨lt,rfl⟩:=ck hd;rw[Int.toNat_natCast] at lt;obtain⟨l,hl⟩:∃ l,ls[k]?=some l:=⟨_,gE0 lt⟩;obtain⟨e,c1,c2,c3,c4⟩:=p.cn (k:=k) hk;have can:=sM p.good hl;rw[e] at can;walk_at "n7";refine⟨R,h,w,ls,_,k,l,h.toNat,w.toNat,_,_,bK k,by rw[Int.zero_add],hls,hl,e,can,p6 p sz hk,by omega,by omega,by omega,by omega,c1,c2,Ao bd k,Nk k,(Ni (by omega)).resolve_right (by omega),?_⟩;walk_at "n7";refine⟨lt,some (.int (0 + (k:Int))),?_⟩;have eg:ls.getD k .r=l:=by simp [List.getD,hl]
  show _=[some (Sl.fz (plD a R h w ls)),some (.fz (.fn o f v (R.ob a))),some (.fz (rD (mK R h.toNat w.toNat (ls.getD k .r) (cN h w ls k).1 (cN h w ls k).2 (stK R h w ls rows k)))),_];rw[eg];rfl
 ·rintro Γ ⟨hk,s,rfl⟩;rw[bj,Int.toNat_natCast];walk_at "n7";exact q
theorem zI {u:Nat} {G:LL0} (g:GR u G):Sz (G.length:Int).toNat (u:Int).toNat G:=⟨rfl,g.len⟩
theorem IP {H u:Nat} {G:LL0} {B:Int} (s:Sz H u G) (b:BdR B G) (hB:B < 1000000000000000) (h1:1<=H) (h2:H<=64) (w1:1<=u) (w2:u<=64) (m:H * u<=512):GR u G:=by
 have hh:=s.hh;subst hh;exact⟨h1,h2,w1,w2,m,s.ww,fun r hr=>Br (b r hr) hB⟩
theorem tm {R:Rl} {u:Nat} {ls:List Lt} {G:LL0} (g:GR u G) (p:Pl G.length u ls) (b:BdR 100000 G):GR u (nr R G.length u ls G):=
 IP (p6 p (zI g) (Nat.le_refl _)) (Ao b _) (Nj p.len) g.h1 g.h2 g.w1 g.w2 g.all
def Fx (a:Ad):S3:=fun Γ Q=>∃ (R:Rl) (ls:List Lt) (u:Nat) (G:LL0),Γ=[some (.fz (plD a R G.length u ls)),some (.fz (fD a G))]/\GR u G/\Pl G.length u ls/\BdR 100000 G/\Q (.fr (fD a (nr R G.length u ls G))) Γ
theorem vV (T:Txt K mg a) (M:nU base a.dj qL):aG P w K mg base CX0 10 a.zN a.qv ["plan","picture"] (sp3 K 2 (Fx a)):=by
 refine okM T.gy.F vJ (hbody:=fun cdv A outer s H E hcv hr=>?_);have hcd:cdv=.ref a.ey:=hcv.trans T.DC;refine⟨_,_,(ai (fe (au (by rfl) (qf T) hr.dn (by rfl) T.dk.m T.dk.F.kp T.dk.b (aa (P3.opd (p3v 0)) (aa (P3.opd (p3v 1)) ab))))
   (ai (aN (i:=2) vJ.nd rfl (Or.inr rfl) (aZ (by rfl) (bv 0) T.cg T.xD (xA T) hr.dn T.qB.b))
   (ak (av (oq T.mk_Field (ej T) hr.dn (by rfl) T.kU T.cY.b (ag (EV (i:=2) (j:=1) (nm:="rule") (fun base o f v L=>tY T L) hr.dn (by rfl) T.e9.m T.e9.F.kp T.e9.b (by rfl) (by rfl) (by rfl) rfl (aa (P3.opd (p3v 0)) (aa (P3.opd (KC hcd (fun h X=>PySem.W.codeHd_of_K X T.Dw) M rfl)) (aa (P3.opd (aZ (by rfl) (bv 1) T.bu T.fi (fh T) hr.dn T.dU.b)) ab)))) az)))))),fun Γa Q h hl=>?_⟩
 obtain⟨R,ls,u,G,rfl,g,p,b,q⟩:=h;have hls:=p.len;walk_at "n5";refine⟨R,ls,u,G,rfl,hls,g,b,?_⟩;walk_at "n5";refine⟨by decide +kernel,R,_,_,ls,rfl,hls,?_⟩;unfold Bn;walk_at "n5";unfold K3;intro o f ho;walk_at "n5";refine⟨by decide +kernel,u,G,rfl,g,?_⟩;walk_at "n5";refine⟨o,f,rfl,ho,_,rfl,fun v=>?_⟩;refine⟨R,_,_,ls,G,rfl,p,zI g,b,?_⟩;walk_at "n5";refine⟨u,_,rfl,tm g p b,?_⟩;walk_at "n5";exact q
theorem JO:Str.ofString "r"++Str.ofString "p"++Str.ofString "b"=wy [.r,.p,.b]:=by decide +kernel
theorem S_r:Str.ofString "r"++Str.empty++Str.empty=wy [.r]:=by decide +kernel
theorem S_p:Str.empty++Str.ofString "p"++Str.empty=wy [.p]:=by decide +kernel
theorem S_0:Str.empty++Str.empty++Str.empty=wy []:=by decide +kernel
theorem JN:(wy [.r,.p,.b] == Str.ofString "")=false:=by decide +kernel
theorem V_r:(wy [.r] == Str.ofString "")=false:=by decide +kernel
theorem V_p:(wy [.p] == Str.ofString "")=false:=by decide +kernel
theorem V_0:(wy [] == Str.ofString "")=true:=by decide +kernel
theorem Mz:(Lt.r == Lt.b)=false:=rfl
theorem MA:(Lt.p == Lt.b)=false:=rfl
theorem MB:(Lt.b == Lt.b)=true:=rfl
theorem Nl {c:Bool} {x y:D}:atI [x,y] (if c=true then 1 else 0)=some (if c=true then y else x):=by cases c <;> rfl
theorem GI {ls:List Lt} {i:Int} {l:Lt} {k:Lt->Prop} {t:Tag k} (z:(wy ls).length<=sizeLine) (h:atI ls i=some l) (q:k l):JS ls i k t:=⟨z,l,h,q⟩
def Lz:S3:=fun Γ Q=>∃ (d:D) (h w:Int),Γ=[some (.ln d),some (.fz (pD h w))]/\vz h w/\Box 11 d/\∀ ls d',ls.length<=10->Good h w ls->Box 22 d'->Q (.fz (.str (wy ls))) [some (.ln d'),some (.fz (pD h w))]
theorem EA {ls:List Lt} {r:Int} {k:Lt->Prop} {t:Tag k} (h0:0<=r) (h1:r < (ls.length:Int)) (z:ls.length<=sizeLine) (q:∀ l∈ls,k l):JS ls r k t:=by
 refine GI (l:=ls[r.toNat]) (by rw[cx];exact z) (a8 h0 (gE0 (by omega))) (q _ (List.getElem_mem _))
theorem wL (ls:List Lt) (l:Lt):wy ls++l.s=wy (ls++[l]):=by
 show (⟨(wy ls).cps++l.s.cps⟩:Str)=_;unfold wy
 congr 1
 rw[List.map_append];cases l <;> simp [Lt.s,sgn]
theorem wb:∀ {ls:List Lt} {h w:Int} {l:Lt},Good h w ls->Can l (cat h w ls ls.length).1 (cat h w ls ls.length).2->Good h w (ls++[l])/\cat h w (ls++[l]) (ls++[l]).length=(nh l (cat h w ls ls.length).1,nw l (cat h w ls ls.length).2)
 | [],h,w,l,_,c=>⟨⟨c,trivial⟩,rfl⟩
 | m::ls,h,w,l,g,c=>by
  obtain⟨i1,i2⟩:=wb (ls:=ls) (h:=nh m h) (w:=nw m w) (l:=l) g.2 c;exact⟨⟨g.1,i1⟩,i2⟩
theorem y_ (T:Txt K mg a):aG P w K mg base CX0 2 a.uL a.qO ["_law_box_here","_law_size_here"] (sp3 K 2 Lz):=by
 refine ok3 T.jo.F bO (hbody:=fun cdv A outer s H E hr=>⟨_,_,(ai (n_ (is:=[2,3]) (by rfl) (p3v 1) (aJ (aP (i:=2) bO.nd rfl (Or.inl rfl)) (aJ (aP (i:=3) bO.nd rfl (Or.inl rfl)) bZ)) rfl)
   (ai (aN (i:=4) bO.nd rfl (Or.inl rfl) bF)
   (ai (fG PassesOwn.never rfl (bc (by rfl) T.z_range (ag (au (by rfl) (aV T) hr.dn (by rfl) T.ao.m T.ao.F.kp T.ao.b (aa (bv 0) (aa (P3.opd af) ab))) az)) (aQ (i:=5) bO.nd rfl (Or.inl rfl))
   (ai (aN (i:=6) bO.nd rfl (Or.inl rfl) (aH (P3.opd (aH (P3.opd (xm (P3.opd bF) (P3.opd (bX z5 (by rfl) T.z_int (by decide +kernel) (aa (P3.opd (iP uU (bv 3) (P3.opd af) (ba _))) ab))))) (P3.opd (xm (P3.opd bF) (P3.opd (bX z5 (by rfl) T.z_int (by decide +kernel) (aa (P3.opd (iP uU (bv 2) (P3.opd af) (ba _))) ab))))))) (P3.opd (xm (P3.opd bF) (P3.opd (bX z5 (by rfl) T.z_int (by decide +kernel) (aa (P3.opd (AF (iP uU (bv 3) (P3.opd af) (ba _)) (xl (iP uU (bv 2) (P3.opd af) (ba _))))) ab)))))))
   (ak (bh (aU (iW (by rfl) hr) (bv 6) (P3.opd bF) (ba _)) (ai (aN (i:=7) bO.nd rfl (Or.inl rfl) (aO (by rfl) (bv 6) (P3.opd (au (by rfl) (aV T) hr.dn (by rfl) T.ao.m T.ao.F.kp T.ao.b (aa (bv 0) (aa (P3.opd (aE (dJ (by rfl)) (by rfl) T.z_len (by decide +kernel) (aa (bv 6) ab))) ab)))) (fun _ _=>rfl)))
   (ai (aN (i:=4) bO.nd rfl (Or.inl rfl) (aH (bv 4) (bv 7)))
   (ai (aN (i:=3) bO.nd rfl (Or.inl rfl) (aO (by rfl) (P3.opd (dD (ag (p3v 3) (ag (bM (P3.opd (aH (bv 3) (P3.opd af))) (P3.opd af)) az)))) (P3.opd (bX z5 (by rfl) T.z_int (by decide +kernel) (aa (P3.opd (iP (iW (by rfl) hr) (bv 7) (P3.opd bF) (ba _))) ab))) (fun _ _=>rfl)))
   (ak (aN (i:=2) bO.nd rfl (Or.inl rfl) (aO (by rfl) (P3.opd (dD (ag (p3v 2) (ag (bM (P3.opd (aH (bv 2) (P3.opd af))) (P3.opd af)) az)))) (P3.opd (bX z5 (by rfl) T.z_int (by decide +kernel) (aa (P3.opd (iP (iW (by rfl) hr) (bv 7) (P3.opd bF) (ba _))) ab))) (fun _ _=>rfl))))))) aR))))
   (ak (av (tW 4)))))),fun Γa Q h hl=>?_⟩)
 obtain⟨d,h,w,rfl,sz,hb,q⟩:=h;walk_at "n8";refine⟨_,_,11,rfl,hb,by decide,by decide,by decide,fun r1 d1 l1 u1 b1=>?_⟩;walk_at "n8";refine⟨by omega,by omega,cB (fun k Γ=>∃ ls d s5 s6 s7,ls.length<=k/\Good h w ls/\Box (12 + k) d/\Γ=[some (.ln d),some (.fz (pD h w)),some (.fz (.int (cat h w ls ls.length).1)),some (.fz (.int (cat h w ls ls.length).2)),some (.fz (.str (wy ls))),fo s5,fo s6,fo s7]) ⟨[],d1,none,none,none,Nat.le_refl _,trivial,b1.up (by decide),rfl⟩ ?_ ?_⟩
 ·rintro k d Γ hd ⟨ls,d,s5,s6,s7,hk,g,hb,rfl⟩;obtain⟨lk,rfl⟩:=ck hd;obtain⟨p1,p2,_,_⟩:=yq (k:=ls.length) g sz.h1 sz.w1 (Nat.le_refl _);have hsn:∀ l,Can l (cat h w ls ls.length).1 (cat h w ls ls.length).2->Good h w (ls++[l])/\cat h w (ls++[l]) (ls++[l]).length=(nh l (cat h w ls ls.length).1,nw l (cat h w ls ls.length).2):=fun l c=>wb g c;generalize hc:cat h w ls ls.length=c at p1 p2 hsn ⊢;obtain⟨H,W⟩:=c;dsimp only at p1 p2 hsn ⊢;cases eW:Bc W 1 <;> cases eH:Bc H 1
  all_goals simp -dsimp only[tgN,uy,uz,↓zD,↓zC,↓p5,↓wa,↓h_c,↓pI,↓oU,↓v_,Gat,List.set_cons_succ,List.set_cons_zero,List.getElem?_cons_succ,List.getElem?_cons_zero,Option.some.injEq,exists_eq',Bo.at,l9,RV.d,zW,i2',↓uo,ats,eW,oN,A7,if_pos,qG,Int.reduceEq,or_true,eH,Bool.false_eq_true,if_false,or_false,Aa,wJ,↓zH,↓Gz,↓GA,↓zB,RV.sl,S_0,S_r,S_p,JO,zQ,Nat.reduceAdd,zO,V_0,V_r,V_p,JN,Bool.true_xor,exists_eq_left',Bool.not_false,Bool.not_true,↓Gu,↓Gv,↓uq,↓pG,A2,List.length_cons,List.length_nil,Nat.zero_add,bQ,List.nodup_cons,List.not_mem_nil,not_false_eq_true,List.nodup_nil,and_true,dG,List.map_cons,List.map_nil,Option.bind_some,qz,fV,true_and]
  ·exact⟨by rw[sizeLine_eq];decide +kernel,by rw[sizeLine_eq];decide +kernel,by rw[sizeLine_eq];decide +kernel,by rw[sizeLine_eq];decide +kernel,by rw[sizeLine_eq];decide +kernel,ls,d,some _,some _,s7,by omega,g,hb.up (by omega),by rw[hc];rfl⟩
  ·refine⟨by rw[sizeLine_eq];decide +kernel,by rw[sizeLine_eq];decide +kernel,by rw[sizeLine_eq];decide +kernel,by rw[sizeLine_eq];decide +kernel,by rw[sizeLine_eq];decide +kernel,by rw[cx,sizeLine_eq];decide,_,_,_,rfl,hb,by omega,by rw[cx];decide,by rw[cx];decide,fun r2 d2 l2 u2 b2=>?_⟩;rw[cx] at u2;walk_at "n8";refine EA l2 u2 (by rw[sizeLine_eq];decide) (fun l hl=>?_);obtain⟨g2,c2⟩:=hsn l (by have e:=of_decide_eq_true eH;rw[List.mem_singleton.mp hl];exact⟨fun n=>absurd rfl n,fun _=>by omega⟩);walk_at "n8";exact⟨by rw[cx,show l.s.length=1 by cases l <;> decide +kernel,sizeLine_eq];omega,⟨by decide,by decide⟩,z2,⟨by decide,by decide⟩,z2,ls++[l],d2,some _,some _,some (.str l.s),by rw[List.length_append];simp only[List.length_cons,List.length_nil];omega,g2,b2.up (by omega),by rw[c2,wL];cases l <;> rfl⟩
  ·refine⟨by rw[sizeLine_eq];decide +kernel,by rw[sizeLine_eq];decide +kernel,by rw[sizeLine_eq];decide +kernel,by rw[sizeLine_eq];decide +kernel,by rw[sizeLine_eq];decide +kernel,by rw[cx,sizeLine_eq];decide,_,_,_,rfl,hb,by omega,by rw[cx];decide,by rw[cx];decide,fun r2 d2 l2 u2 b2=>?_⟩;rw[cx] at u2;walk_at "n8";refine EA l2 u2 (by rw[sizeLine_eq];decide) (fun l hl=>?_);obtain⟨g2,c2⟩:=hsn l (by have e:=of_decide_eq_true eW;rw[List.mem_singleton.mp hl];exact⟨fun _=>by omega,fun n=>absurd rfl n⟩);walk_at "n8";exact⟨by rw[cx,show l.s.length=1 by cases l <;> decide +kernel,sizeLine_eq];omega,⟨by decide,by decide⟩,z2,⟨by decide,by decide⟩,z2,ls++[l],d2,some _,some _,some (.str l.s),by rw[List.length_append];simp only[List.length_cons,List.length_nil];omega,g2,b2.up (by omega),by rw[c2,wL];cases l <;> rfl⟩
  ·refine⟨by rw[sizeLine_eq];decide +kernel,by rw[sizeLine_eq];decide +kernel,by rw[sizeLine_eq];decide +kernel,by rw[sizeLine_eq];decide +kernel,by rw[sizeLine_eq];decide +kernel,by rw[cx,sizeLine_eq];decide,_,_,_,rfl,hb,by omega,by rw[cx];decide,by rw[cx];decide,fun r2 d2 l2 u2 b2=>?_⟩;rw[cx] at u2;walk_at "n8";refine EA l2 u2 (by rw[sizeLine_eq];decide) (fun l hl=>?_);obtain⟨g2,c2⟩:=hsn l (by have e:=of_decide_eq_true eW;have e2:=of_decide_eq_true eH;exact⟨fun _=>by omega,fun _=>by omega⟩);walk_at "n8";exact⟨by rw[cx,show l.s.length=1 by cases l <;> decide +kernel,sizeLine_eq];omega,⟨by decide,by decide⟩,z2,⟨by decide,by decide⟩,z2,ls++[l],d2,some _,some _,some (.str l.s),by rw[List.length_append];simp only[List.length_cons,List.length_nil];omega,g2,b2.up (by omega),by rw[c2,wL];cases l <;> rfl⟩
 ·rintro Γ ⟨ls,d,s5,s6,s7,hk,g,hb,rfl⟩;rw[bj] at hk hb;walk_at "n8";exact q _ _ (by omega) g (hb.up (by omega))
def K0:S3:=fun Γ Q=>∃ (h w:Int) (ls:List Lt),Γ=[some (.fz (pD h w)),some (.fz (.str (wy ls)))]/\ls.length<=10/\Q (.fr (.lst ((gZ h w ls).map cD))) Γ
theorem rH (T:Txt K mg a):aG P w K mg base CX0 1 a.lE a.jY ["_law_size_here","_law_way_here"] (sp3 K 2 K0):=by
 refine ok3 T.dQ.F bE (hbody:=fun cdv A outer s H E hr=>⟨_,_,(ai (aN (i:=2) bE.nd rfl (Or.inl rfl) (dD (ag (p3v 0) az)))
   (ai (fG PassesOwn.never rfl (Fq (p3v 1)) (aQ (i:=3) bE.nd rfl (Or.inl rfl))
   (ai (n_ (is:=[4,5]) (by rfl) (aO (by rfl) (bv 2) (P3.opd (iO (P3.opd af))) (fun _ _=>rfl)) (aJ (aP (i:=4) bE.nd rfl (Or.inl rfl)) (aJ (aP (i:=5) bE.nd rfl (Or.inl rfl)) bZ)) rfl)
   (ai (bh (aU (iW (by rfl) hr) (bv 3) (P3.opd bF) (ba _)) (ak (aN (i:=5) bE.nd rfl (Or.inl rfl) (bM (P3.opd (aH (bv 5) (P3.opd af))) (P3.opd af)))) aR)
   (ai (bh (aU (iW (by rfl) hr) (bv 3) (P3.opd bF) (ba _)) (ak (aN (i:=4) bE.nd rfl (Or.inl rfl) (bM (P3.opd (aH (bv 4) (P3.opd af))) (P3.opd af)))) aR)
   (ak (fe (gn 2 (by rfl) (bv 2) (eN (ag (p3v 4) (ag (p3v 5) az))))))))))
   (ak (av (tW 2))))),fun Γa Q h hl=>?_⟩)
 obtain⟨h,w,ls,rfl,hls,q⟩:=h;walk_at "n8";refine⟨z1,Af ls,cB (fun k Γ=>k<=ls.length/\∃ s3 s4 s5,Γ=[some (.fz (pD h w)),some (.fz (.str (wy ls))),some (.ow (.lst (((gZ h w ls).take (k + 1)).map cD))),fo s3,fo s4,fo s5]) ⟨Nat.zero_le _,none,none,none,by cases ls <;> rfl⟩ ?_ ?_⟩
 ·rintro k d Γ hd ⟨hk,s3,s4,s5,rfl⟩;rw[kn] at hd;obtain⟨l,hl,rfl⟩:=xI hd;have lt:=gN hl;have tk:(((gZ h w ls).take (k + 1)).map cD).length=k + 1:=by rw[lM0,List.length_take,fv];omega
  have at1:atI (((gZ h w ls).take (k + 1)).map cD) (-1)=some (.tup [.int (cat h w ls k).1,.int (cat h w ls k).2]):=Iy (by rw[tk,List.map_take,List.getElem?_take_of_lt (by omega)];exact FW (by omega));have st:=uS (h:=h) (w:=w) hl;have z3:(((gZ h w ls).take (k + 1)).map cD).length < sizeLine:=by rw[tk,sizeLine_eq];omega
  cases l
  ·walk_at "n8";rw[at1];walk_at "n8";have st':cat h w ls (k + 1)=((cat h w ls k).1,((cat h w ls k).2 + 1) / 2):=st;exact⟨⟨by decide,by decide⟩,z2,z3,lt,some _,some _,some _,by rw[<- gq lt,st'];rfl⟩
  ·walk_at "n8";rw[at1];walk_at "n8";have st':cat h w ls (k + 1)=(((cat h w ls k).1 + 1) / 2,(cat h w ls k).2):=st;exact⟨⟨by decide,by decide⟩,z2,z3,lt,some _,some _,some _,by rw[<- gq lt,st'];rfl⟩
  ·walk_at "n8";rw[at1];walk_at "n8";have st':cat h w ls (k + 1)=(((cat h w ls k).1 + 1) / 2,((cat h w ls k).2 + 1) / 2):=st;exact⟨⟨by decide,by decide⟩,⟨by decide,by decide⟩,z2,z3,lt,some _,some _,some _,by rw[<- gq lt,st'];rfl⟩
 ·rintro Γ ⟨hk,s3,s4,s5,rfl⟩;walk_at "n8";rw[kn,lM0,List.take_of_length_le (by rw[fv];omega)];exact q
def Made (w k:Nat) (R:LL0):Prop:=R.length=k/\∀ r∈R,r.length=w/\Bd 100000 r
theorem Made.snoc {w k:Nat} {R:LL0} {r:Li0} (h:Made w k R) (h1:r.length=w) (h2:Bd 100000 r):Made w (k + 1) (R++[r]):=by
 refine⟨by rw[List.length_append,h.1];rfl,fun x hx=>?_⟩;rcases List.mem_append.mp hx with hx | hx
 ·exact h.2 x hx
 ·rw[List.mem_singleton] at hx;subst hx;exact⟨h1,h2⟩
theorem Cy {ns:Li0} {n B:Int} (h:Bd B ns) (h1:-B<=n) (h2:n<=B):Bd B (ns++[n]):=yC h fun x hx=>by
 rw[List.mem_singleton] at hx;subst hx;exact⟨h1,h2⟩
def HU:S3:=fun Γ Q=>∃ (d:D) (h w:Int),Γ=[some (.ln d),some (.fz (pD h w))]/\Box 22 d/\vz h w/\∀ R d',Made w.toNat h.toNat R->Q (.fr (rD R)) [some (.ln d'),some (.fz (pD h w))]
theorem two {v:D} (h:v∈[D.int 3,.int 200001]):∃ i:Int,v=.int i/\3<=i/\i<=200001:=by
 simp only[List.mem_cons,List.not_mem_nil,or_false] at h;rcases h with rfl | rfl <;> exact⟨_,rfl,by decide,by decide⟩
theorem xv (T:Txt K mg a):aG P w K mg base CX0 3 a.qY a.o5 ["_law_box_here","_law_size_here"] (sp3 K 2 HU):=by
 refine ok3 T.ig.F cZ (hbody:=fun cdv A outer s H E hr=>⟨_,_,(ai (bh (aU uU (P3.opd (ed (P3.opd (aO (by rfl) (bv 1) (P3.opd af) (fun _ _=>rfl))) (P3.opd (aO (by rfl) (bv 1) (P3.opd af) (fun _ _=>rfl))))) (P3.opd af) (ba _)) (ai (aN (i:=2) cZ.nd rfl (Or.inr rfl) (au (by rfl) (aV T) hr.dn (by rfl) T.ao.m T.ao.F.kp T.ao.b (aa (bv 0) (aa (P3.opd (ER (v:=100000000) (by decide +kernel) ⟨by decide,by decide,by decide⟩)) ab))))
   (ai (aN (i:=3) cZ.nd rfl (Or.inr rfl) (aO (by rfl) (P3.opd (dD (ag af (ag af az)))) (P3.opd (au (by rfl) (aV T) hr.dn (by rfl) T.ao.m T.ao.F.kp T.ao.b (aa (bv 0) (aa (P3.opd af) ab)))) (fun _ _=>rfl)))
   (ai (aN (i:=4) cZ.nd rfl (Or.inl rfl) (dD az))
   (ai (fG PassesOwn.never rfl (bc (by rfl) T.z_range (ag (aO (by rfl) (bv 1) (P3.opd af) (fun _ _=>rfl)) az)) (aQ (i:=5) cZ.nd rfl (Or.inr rfl))
   (ai (dA (i:=6) cZ.nd rfl rfl rfl (bc (by rfl) T.z_range (ag (aO (by rfl) (bv 1) (P3.opd af) (fun _ _=>rfl)) az)) j7 (fun _ _ _ _ _=>(aQ (i:=0) j7.nd rfl (Or.inl rfl))) (fun _ _ _ _ _=>(nE (P3.opd (BS (P3.opd (aH (bv 1) (P3.opd (ed (P3.opd af) (P3.opd (aH (P3.opd (ed (P3.opd af) (bv 2))) (bv 0))))))) (P3.opd af))) (P3.opd af))))
   (ak (fe (gn 4 (by rfl) (bv 4) (bC rfl (cf (by rfl) (p3v 6)) j8 (fun _ _ _ _ _=>(aQ (i:=0) j8.nd rfl (Or.inl rfl))) (fun _ _ _ _ _=>(cP (P3.opd (nE (bv 0) (bv 1))) (P3.opd (bM (bv 1) (P3.opd af)))))))))))
   (ak (av (tW 4))))))) aR)
   (ak (av (bC rfl (bc (by rfl) T.z_range (ag (aO (by rfl) (bv 1) (P3.opd af) (fun _ _=>rfl)) az)) j_ (fun _ _ _ _ _=>(aQ (i:=0) j_.nd rfl (Or.inl rfl))) (fun _ _ _ _ _=>(bC rfl (bc (by rfl) T.z_range (ag (aO (by rfl) (bv 2) (P3.opd af) (fun _ _=>rfl)) az)) j9 (fun _ _ _ _ _=>(aQ (i:=0) j9.nd rfl (Or.inl rfl))) (fun _ _ _ _ _=>(au (by rfl) (vi T) hr.dn (by rfl) T.fZ.m T.fZ.F.kp T.fZ.b (aa (bv 1) ab))))))))),fun Γa Q h hl=>?_⟩)
 obtain⟨d,h,w,rfl,hb,sz,q⟩:=h;obtain⟨a1,a2,a3,a4,a5⟩:=id sz;walk_at "n5";refine⟨.inl ⟨by omega,by omega⟩,lQ (fun big=>?_) (fun big=>?_)⟩
 ·walk_at "n5";refine⟨_,_,100000000,rfl,hb,by decide,by decide,by decide,fun r1 d1 l1 u1 b1=>?_⟩;walk_at "n5";refine⟨z2,_,_,2,rfl,b1,by decide,by decide,by decide,fun r2 d2 l2 u2 b2=>?_⟩;walk_at "n5";refine pick (p:=fun v=>∃ i:Int,v=.int i/\3<=i/\i<=200001) l2 u2 (fun _=>two) ?_;rintro _ ⟨mo,rfl,m1,m2⟩;walk_at "n5";refine⟨Nat.zero_le _,by omega,by omega,cB (fun k Γ=>∃ R s s',Made w.toNat k R/\Γ=[some (.ln d2),some (.fz (pD h w)),some (.fz (.int r1)),some (.fz (.int mo)),some (.ow (.lst (R.map il))),fo s,fo s']) ⟨[],none,none,⟨rfl,fun _ h=>nomatch h⟩,rfl⟩ ?_ ?_⟩
  ·rintro k x Γ hd ⟨R,s,s',m,rfl⟩;obtain⟨lk,rfl⟩:=ck hd;walk_at "n5";refine⟨by omega,by omega,small (by rw[bj];omega),aS (fun j ys Γc=>∃ ns:Li0,ys=ns.map .int/\ns.length=j/\∃ s,Γc=[fo s,some (.fz (.int r1)),some (.fz (.int (0 + k)))]) ⟨[],rfl,rfl,none,rfl⟩ ?_ ?_⟩
   ·rintro j y ys Γc hd2 hj ⟨ns,rfl,hl',s,rfl⟩;obtain⟨lj,rfl⟩:=ck hd2;walk_at "n5";refine⟨.inl ⟨by decide,by decide⟩,.inl ⟨by decide,by decide⟩,⟨by decide,by decide,?_⟩,by decide,ns++[_],by rw[List.map_append];rfl,by simp [hl'],some _,rfl⟩;show (r1 + 7919 * (64 * (0 + (k:Int)) + (0 + (j:Int)))).natAbs < 2 ^ 64;omega
   ·rintro ys Γc hj ⟨ns,rfl,hl',s,rfl⟩;walk_at "n5";have nl:ns.length=w.toNat:=by rw[hl',bj]
    refine⟨small (by rw[lM0];omega),aS (fun j ys Γc=>∃ r:Li0,ys=r.map .int/\r.length=j/\Bd 100000 r/\∃ s,Γc=[fo s,some (.fz (.int mo))]) ⟨[],rfl,rfl,(fun _ h=>nomatch h),none,rfl⟩ ?_ ?_⟩
    ·rintro j y ys Γc hd2 hj ⟨r,rfl,hl2,hf,s,rfl⟩;obtain⟨n,hn,rfl⟩:=fO hd2;walk_at "n5";have e1:=Int.emod_nonneg n (show mo≠0 by omega);have e2:=Int.emod_lt_of_pos n (show 0 < mo by omega);refine⟨by omega,⟨by decide,by decide⟩,r++[_],by rw[List.map_append];rfl,by simp [hl2],Cy hf ?_ ?_,some _,rfl⟩ <;> omega
    ·rintro ys Γc hj ⟨r,rfl,hl2,hf,s,rfl⟩;walk_at "n5";rw[lM0] at hl2;refine⟨small (by rw[lM0,m.1];omega),R++[r],some _,some _,m.snoc (by omega) hf,by rw[List.map_append];rfl⟩
  ·rintro Γ ⟨R,s,s',m,rfl⟩;walk_at "n5";rw[bj] at m;exact q R _ m
 ·walk_at "n5";have small81:(h.toNat * w.toNat:Nat)<=81:=by
   have e:¬ 81 < h * w:=of_decide_eq_false big;have:((h.toNat * w.toNat:Nat):Int)<=81:=by rw[Int.natCast_mul,Int.toNat_of_nonneg (by omega),Int.toNat_of_nonneg (by omega)];omega
   exact_mod_cast this
  refine⟨by omega,by omega,small (by rw[bj];omega),aS (fun k ys Γc=>∃ R d',Made w.toNat k R/\ys=R.map il/\Box (22 + 2 * ((k * w.toNat:Nat):Int)) d'/\∃ s,Γc=[fo s,some (.ln d'),some (.fz (pD h w))]) ⟨[],d,⟨rfl,fun _ h=>nomatch h⟩,rfl,hb.up (by omega),none,rfl⟩ ?_ ?_⟩
  ·rintro k x ys Γc hd hk ⟨R,d',m,rfl,bd,s,rfl⟩;obtain⟨lk,rfl⟩:=ck hd;have kw:k * w.toNat<=64 * 64:=Nat.mul_le_mul (by omega) (by omega);walk_at "n5";refine⟨by omega,by omega,small (by rw[bj];omega),aS (fun j ys Γc=>∃ (r:Li0) (d':D),ys=r.map .int/\r.length=j/\Bd 100000 r/\Box (22 + 2 * ((k * w.toNat + j:Nat):Int)) d'/\∃ s,Γc=[fo s,some (.ln d')]) ⟨[],d',rfl,rfl,(fun _ h=>nomatch h),bd.up (by omega),none,rfl⟩ ?_ ?_⟩
   ·rintro j y ys Γc hd2 hj ⟨r,d3,rfl,hl2,hf,b3,s,rfl⟩;obtain⟨lj,rfl⟩:=ck hd2;walk_at "n5";refine⟨_,_,rfl,b3,by omega,fun r6 d6 l6 u6 b6=>?_⟩;walk_at "n5";exact⟨r++[r6],_,by rw[List.map_append];rfl,by simp [hl2],Cy hf l6 u6,b6.up (by omega),some _,rfl⟩
   ·rintro ys Γc hj ⟨r,d3,rfl,hl2,hf,b3,s,rfl⟩;walk_at "n5";rw[bj] at hl2 b3;exact⟨R++[r],_,m.snoc hl2 hf,by rw[List.map_append];rfl,b3.up (by rw[Nat.add_mul,Nat.one_mul];omega),some _,rfl⟩
  ·rintro ys Γc hk ⟨R,d',m,rfl,bd,s,rfl⟩;walk_at "n5";rw[bj] at m;exact q R _ m
theorem pA {xs:Li0} {k:Nat} {d:D} (h:(uO (xs.map D.int))[k]?=some d):k < xs.length/\d=.tup [.int k,.int (xs.getD k 0)]:=by
 obtain⟨x,hx,rfl⟩:=qw h;obtain⟨lt,rfl⟩:=ints_get hx;exact⟨lt,rfl⟩
theorem lK {xs:Li0}:(uO (xs.map D.int)).length=xs.length:=by unfold uO;simp
theorem Jx {S:Li0} {k:Nat} (h:k < S.length):S[k]?=some (S.getD k 0):=by rw[gE0 h];simp [List.getD,h]
theorem rG (T:Txt K mg a):aG P w K mg base CX0 1 a.lD a.jX ["_law_ones","_law_others"] (sp3 K 2 Fh):=by
 refine ok3 T.dP.F bD (hbody:=fun cdv A outer s H E hr=>⟨_,_,(ai (aN (i:=2) bD.nd rfl (Or.inl rfl) (dD az))
   (ai (fG PassesOwn.never rfl (sI (by rfl) T.z_enumerate (ag (p3v 1) az)) (fL (is:=[3,4]) (by rfl) (aJ (aP (i:=3) bD.nd rfl (Or.inl rfl)) (aJ (aP (i:=4) bD.nd rfl (Or.inl rfl)) bZ)) rfl)
   (ak (fe (gn 2 (by rfl) (bv 2) (cP (bv 4) (P3.opd (bM (P3.opd (aH (P3.opd (aO (by rfl) (bv 0) (bv 3) (fun _ _=>rfl))) (P3.opd (aO (by rfl) (P3.opd (aH (bv 0) (P3.opd (cA (by rfl) (bv 0) (aX (P3.opd (iO (P3.opd af)))) bp)))) (P3.opd (aH (bv 3) (P3.opd af))) (fun _ _=>rfl))))) (P3.opd af))))))))
   (ai (aN (i:=5) bD.nd rfl (Or.inl rfl) (dD az))
   (ai (fG PassesOwn.never rfl (sI (by rfl) T.z_enumerate (ag (p3v 0) az)) (fL (is:=[3,6]) (by rfl) (aJ (aP (i:=3) bD.nd rfl (Or.inl rfl)) (aJ (aP (i:=6) bD.nd rfl (Or.inl rfl)) bZ)) rfl)
   (ak (fe (gn 5 (by rfl) (bv 5) (aH (bv 6) (P3.opd (bM (P3.opd (aH (P3.opd (aH (P3.opd (aO (by rfl) (P3.opd (aH (P3.opd (cA (by rfl) (bv 2) bp (aX (P3.opd af)))) (bv 2))) (bv 3) (fun _ _=>rfl))) (P3.opd (aO (by rfl) (P3.opd (aH (bv 2) (P3.opd (cA (by rfl) (bv 2) (aX (P3.opd (iO (P3.opd af)))) bp)))) (bv 3) (fun _ _=>rfl))))) (P3.opd af))) (P3.opd af))))))))
   (ak (av (aH (bv 5) (bv 2)))))))),fun Γa Q h hl=>?_⟩)
 obtain⟨F,S,rfl,h1,h2,h3,h4,q⟩:=h;have pl:(plG F S).length=S.length:=by unfold plG;simp
 walk_at "n5";refine⟨Nat.zero_le _,cB (fun k Γ=>∃ s3 s4,Γ=[some (.fz (il F)),some (.fz (il S)),some (.ow (.lst ((List.range k).map fun j=>D.int (S.getD j 0 - gg F j)))),fo s3,fo s4,none,none]) ⟨none,none,rfl⟩ ?_ ?_⟩
 ·rintro k d Γ hd ⟨s3,s4,rfl⟩;obtain⟨lt,rfl⟩:=pA hd;walk_at "n5";refine b8.mpr ⟨.int (F.getD k 0),a8 (by omega) (by rw[List.getElem?_map,Int.toNat_natCast,Jx (by omega)];rfl),?_⟩;walk_at "n5";rw[Fj (by omega)];refine⟨by rw[lM0,lM0,List.length_drop,sizeLine_eq];omega,b8.mpr ⟨.int (nrF F ((k:Int) + 1)),a8 (by omega) (by rw[<- List.map_append,List.getElem?_map,show ((k:Int) + 1).toNat=k + 1 by omega,behind (by omega)];rfl),?_⟩⟩;walk_at "n5";exact⟨⟨by decide,by decide⟩,small (by rw[lM0,List.length_range];omega),some _,some _,by rw[<- snoc (f:=fun j=>D.int (S.getD j 0 - gg F j)) (k:=k) rfl];rfl⟩
 ·rintro Γ ⟨s3,s4,rfl⟩;rw[lK,show ((List.range S.length).map fun j=>D.int (S.getD j 0 - gg F j))=(plG F S).map D.int by unfold plG;rw[List.map_map];rfl];walk_at "n5";refine⟨Nat.zero_le _,cB (fun k Γ=>∃ s3 s4 s6,Γ=[some (.fz (il F)),some (.fz (il S)),some (.ow (il (plG F S))),fo s3,fo s4,some (.ow (.lst ((List.range k).map fun j=>D.int (F.getD j 0 + gM (plG F S) j)))),fo s6]) ⟨s3,s4,none,rfl⟩ ?_ ?_⟩
  ·rintro k d Γ hd ⟨s3,s4,s6,rfl⟩;obtain⟨lt,rfl⟩:=pA hd;walk_at "n5";rw[FF (by omega)];refine⟨by rw[lM0,lM0,List.length_take,sizeLine_eq];omega,b8.mpr ⟨.int (nrF (plG F S) ((k:Int) - 1)),a8 (by omega) (by rw[<- List.map_append,List.getElem?_map,Int.toNat_natCast,Lp (by omega) (by omega)];rfl),?_⟩⟩;walk_at "n5";rw[Fj (by omega)];refine⟨by rw[lM0,lM0,List.length_drop,sizeLine_eq];omega,b8.mpr ⟨.int (nrF (plG F S) (k:Int)),a8 (by omega) (by rw[<- List.map_append,List.getElem?_map,Int.toNat_natCast,Im (by omega) (by omega)];rfl),?_⟩⟩;walk_at "n5";exact⟨⟨by decide,by decide⟩,small (by rw[lM0,List.length_range];omega),some _,s4,some _,by rw[<- snoc (f:=fun j=>D.int (F.getD j 0 + gM (plG F S) j)) (k:=k) rfl];rfl⟩
  ·rintro Γ ⟨s3,s4,s6,rfl⟩;rw[lK,show ((List.range F.length).map fun j=>D.int (F.getD j 0 + gM (plG F S) j))=(smG F (plG F S)).map D.int by unfold smG;rw[List.map_map];rfl];walk_at "n5";refine⟨by rw[lM0,lM0,pl,sizeLine_eq];unfold smG;rw[lM0,List.length_range];omega,?_⟩;rw[<- List.map_append];exact q
noncomputable def spl (R:Rl) (ns:Li0):Li0:=R.sums ns++R.dif ns
def Ff:S3:=fun Γ Q=>∃ (R:Rl) (ns:Li0),Γ=[some (.fz (.str R.word)),some (.fz (il ns))]/\2<=ns.length/\ns.length<=64/\Q (.fr (il (spl R ns))) Γ
theorem CO (ns:Li0):smG (fsF ns) (plG (fsF ns) (seF ns))++plG (fsF ns) (seF ns)=spl .guess ns:=by
 have e:plG (fsF ns) (seF ns)=pB (fsF ns) ns:=by
  unfold plG pB rg;rw[tJ];refine List.map_congr_left fun j hj=>?_;have hj:=List.mem_range.mp hj;unfold gg;rw[show (seF ns).getD j 0=ns.getD (2 * j + 1) 0 from jF _ hj]
 have e2:smG (fsF ns) (pB (fsF ns) ns)=Rl.guess.sums ns:=by
  unfold smG;rw[qr];rfl
 rw[e,e2];rfl
theorem NY:(Rl.sum.word == Str.ofString "guess")=false:=by decide +kernel
theorem N2:(Rl.half.word == Str.ofString "guess")=false:=by decide +kernel
theorem NA:(Rl.guess.word == Str.ofString "guess")=true:=by decide +kernel
theorem N0:(Rl.lean.word == Str.ofString "guess")=false:=by decide +kernel
theorem Nx:(Rl.sum.word == Str.ofString "sum")=true:=by decide +kernel
theorem N1:(Rl.half.word == Str.ofString "sum")=false:=by decide +kernel
theorem NZ:(Rl.lean.word == Str.ofString "sum")=false:=by decide +kernel
theorem Nz:(Rl.half.word == Str.ofString "lean")=false:=by decide +kernel
theorem Ny:(Rl.lean.word == Str.ofString "lean")=true:=by decide +kernel
theorem NF (ns:Li0):pk (ns.map D.int) none none (some 2)=(fsF ns).map D.int:=by rw[<- L8];rfl
noncomputable def lfF (ns:Li0):Li0:=if ns.length % 2=1 then [ns.getD (ns.length - 1) 0] else []
theorem Ij (ns:Li0):ns.drop (ns.length / 2 * 2)=lfF ns:=by
 unfold lfF;split
 ·rename_i odd;rw[show ns.length / 2 * 2=ns.length - 1 by omega,List.drop_eq_getElem_cons (by omega),List.drop_eq_nil_of_le (by omega)];simp [List.getD,show ns.length - 1 < ns.length by omega]
 ·rw[List.drop_eq_nil_of_le (by omega)]
noncomputable def smF (ns:Li0):Li0:=rg (fun j=>ns.getD (2 * j) 0 + ns.getD (2 * j + 1) 0) (ns.length / 2)
theorem J7 (ns:Li0):smF ns++(lfF ns).map (fun n=>2 * n)=Rl.sum.sums ns:=by
 show _=cp Rl.sum.pair Rl.sum.kg ns;unfold cp smF lfF
 congr 1
 split <;> rfl
theorem GV (ns:Li0):(smF ns).map (fun n=>n / 2)++lfF ns=cp Rl.lean.pair Rl.lean.kg ns:=by
 unfold cp smF lfF rg;rw[List.map_map]
 congr 1
theorem mP (T:Txt K mg a):aG P w K mg base CX0 2 a.pv a.mZ ["_law_word","_law_row"] (sp3 K 2 Ff):=by
 refine ok3 T.cv.F bP (hbody:=fun cdv A outer s H E hr=>⟨_,_,(ai (aN (i:=2) bP.nd rfl (Or.inl rfl) (gm (by rfl) (bv 1) bp bp (aX (P3.opd af))))
   (ai (aN (i:=3) bP.nd rfl (Or.inl rfl) (gm (by rfl) (bv 1) (aX (P3.opd af)) bp (aX (P3.opd af))))
   (ai (bh (aU (jP (by rfl) hr) (bv 0) (P3.opd bF) (ba _)) (ak (av (au (by rfl) (rG T) hr.dn (by rfl) T.dP.m T.dP.F.kp T.dP.b (aa (P3.opd (p3v 2)) (aa (P3.opd (p3v 3)) ab))))) aR)
   (ai (aN (i:=4) bP.nd rfl (Or.inl rfl) (cA (by rfl) (bv 1) (aX (P3.opd (ed (P3.opd (bM (P3.opd (aE (dJ (by rfl)) (by rfl) T.z_len (by decide +kernel) (aa (bv 1) ab))) (P3.opd af))) (P3.opd af)))) bp))
   (ai (aN (i:=5) bP.nd rfl (Or.inr rfl) (tX (bC rfl (um (by rfl) T.z_zip (ag (p3v 2) (ag (p3v 3) az))) eX (fun _ _ _ _ _=>(fL (is:=[0,1]) (by rfl) (aJ (aP (i:=0) eX.nd rfl (Or.inl rfl)) (aJ (aP (i:=1) eX.nd rfl (Or.inl rfl)) bZ)) rfl)) (fun _ _ _ _ _=>(aH (bv 0) (bv 1))))))
   (ai (dA (i:=6) bP.nd rfl rfl rfl (um (by rfl) T.z_zip (ag (p3v 2) (ag (p3v 3) az))) eY (fun _ _ _ _ _=>(fL (is:=[0,1]) (by rfl) (aJ (aP (i:=0) eY.nd rfl (Or.inl rfl)) (aJ (aP (i:=1) eY.nd rfl (Or.inl rfl)) bZ)) rfl)) (fun _ _ _ _ _=>(cP (bv 0) (bv 1))))
   (ai (bh (aU (jP (by rfl) hr) (bv 0) (P3.opd bF) (ba _)) (ak (av (aH (P3.opd (aH (bv 5) (P3.opd (bC rfl (cf (by rfl) (p3v 4)) jd (fun _ _ _ _ _=>(aQ (i:=0) jd.nd rfl (Or.inl rfl))) (fun _ _ _ _ _=>(ed (P3.opd af) (bv 0))))))) (bv 6)))) aR)
   (ai (aN (i:=5) bP.nd rfl (Or.inr rfl) (tX (aH (P3.opd (bC rfl (cf (by rfl) (p3v 5)) je (fun _ _ _ _ _=>(aQ (i:=0) je.nd rfl (Or.inl rfl))) (fun _ _ _ _ _=>(bM (bv 0) (P3.opd af))))) (bv 4))))
   (ai (bh (aU (jP (by rfl) hr) (bv 0) (P3.opd bF) (ba _)) (ak (dA (i:=6) bP.nd rfl rfl rfl (sI (by rfl) T.z_enumerate (ag (p3v 6) az)) eZ (fun _ _ _ _ _=>(fL (is:=[0,1]) (by rfl) (aJ (aP (i:=0) eZ.nd rfl (Or.inl rfl)) (aJ (aP (i:=1) eZ.nd rfl (Or.inl rfl)) bZ)) rfl)) (fun _ _ _ _ _=>(cP (bv 1) (P3.opd (au (by rfl) (vj T) hr.dn (by rfl) T.f_.m T.f_.F.kp T.f_.b (aa (P3.opd (p3v 2)) (aa (P3.opd (p3v 0)) ab)))))))) aR)
   (ak (av (aH (bv 5) (bv 6))))))))))))),fun Γa Q h hl=>?_⟩)
 obtain⟨R,ns,rfl,h2,h64,q⟩:=h;have fl:=qr ns;have sl:=tJ ns;walk_at "n5";refine⟨by decide,by decide,?_⟩;rw[NF,L7];by_cases hg:R=.guess
 ·subst hg;rw[NA];walk_at "n5";refine⟨_,_,rfl,by omega,by omega,by omega,by omega,?_⟩;rw[CO];walk_at "n5";exact q
 rw[show (R.word == Str.ofString "guess")=false by cases R <;> first | exact absurd rfl hg | decide +kernel];walk_at "n5";refine⟨⟨by decide,by decide⟩,.inr ⟨by decide,by decide⟩,?_⟩;rw[lM0,show (ns.length:Int) / 2 * 2=((ns.length / 2 * 2:Nat):Int) by omega,lL (by omega),Ij];have lfl:(lfF ns).length<=1:=by unfold lfF;split <;> simp
 have sml:(smF ns).length=ns.length / 2:=dC _ _;have gpl:(i8 ns).length=ns.length / 2:=dC _ _;have zl:(g_ ((fsF ns).map D.int) ((seF ns).map D.int)).length=ns.length / 2:=by rw[nW];omega
 refine⟨small (by omega),aS (fun k ys Γc=>ys=(List.range k).map (fun j=>D.int (ns.getD (2 * j) 0 + ns.getD (2 * j + 1) 0))/\∃ s s',Γc=[fo s,fo s']) ⟨rfl,none,none,rfl⟩ ?_ ?_⟩
 ·rintro k d ys Γc hd hk ⟨rfl,s,s',rfl⟩;obtain⟨l1,l2,rfl⟩:=zip_get hd;rw[show (fsF ns).getD k 0=ns.getD (2 * k) 0 from jF _ (by omega),show (seF ns).getD k 0=ns.getD (2 * k + 1) 0 from jF _ (by omega)];walk_at "n5";exact⟨snoc rfl,some _,some _,rfl⟩
 rintro ys Γc hk ⟨rfl,s,s',rfl⟩;rw[zl,show (List.range (ns.length / 2)).map (fun j=>D.int (ns.getD (2 * j) 0 + ns.getD (2 * j + 1) 0))=(smF ns).map D.int from jV _ _];walk_at "n5";refine⟨small (by omega),aS (fun k ys Γc=>ys=(List.range k).map (fun j=>D.int (ns.getD (2 * j) 0 - ns.getD (2 * j + 1) 0))/\∃ s s',Γc=[fo s,fo s']) ⟨rfl,none,none,rfl⟩ ?_ ?_⟩
 ·rintro k d ys Γc hd hk ⟨rfl,s,s',rfl⟩;obtain⟨l1,l2,rfl⟩:=zip_get hd;rw[show (fsF ns).getD k 0=ns.getD (2 * k) 0 from jF _ (by omega),show (seF ns).getD k 0=ns.getD (2 * k + 1) 0 from jF _ (by omega)];walk_at "n5";exact⟨snoc rfl,some _,some _,rfl⟩
 rintro ys Γc hk ⟨rfl,s,s',rfl⟩;rw[zl,show (List.range (ns.length / 2)).map (fun j=>D.int (ns.getD (2 * j) 0 - ns.getD (2 * j + 1) 0))=(i8 ns).map D.int from jV _ _];walk_at "n5";by_cases hs:R=.sum
 ·subst hs;rw[Nx];walk_at "n5";refine⟨small (by rw[lM0];omega),aS (fun k ys Γc=>ys=((lfF ns).take k).map (fun n=>D.int (2 * n))/\∃ s,Γc=[fo s]) ⟨rfl,none,rfl⟩ ?_ ?_⟩
  ·rintro k d ys Γc hd hk ⟨rfl,s,rfl⟩;obtain⟨n,hn,rfl⟩:=fO hd;walk_at "n5";exact⟨.inl ⟨by decide,by decide⟩,by rw[take_snoc hn,List.map_append];rfl,some _,rfl⟩
  ·rintro ys Γc hk ⟨rfl,s,rfl⟩;rw[List.take_of_length_le (by rw[lM0];exact Nat.le_refl _)];walk_at "n5";refine⟨by rw[lM0,lM0,sizeLine_eq];omega,by rw[List.length_append,lM0,lM0,lM0,sizeLine_eq];omega,?_⟩;rw[show (smF ns).map D.int++(lfF ns).map (fun n=>D.int (2 * n))++(i8 ns).map D.int=(spl .sum ns).map D.int by
    unfold spl;rw[<- J7,List.map_append,List.map_append,List.map_map];rfl]
   exact q
 rw[show (R.word == Str.ofString "sum")=false by cases R <;> first | exact absurd rfl hg | exact absurd rfl hs | decide +kernel];walk_at "n5";refine⟨small (by rw[lM0];omega),aS (fun k ys Γc=>ys=((smF ns).take k).map (fun n=>D.int (n / 2))/\∃ s,Γc=[fo s]) ⟨rfl,none,rfl⟩ ?_ ?_⟩
 ·rintro k d ys Γc hd hk ⟨rfl,s,rfl⟩;obtain⟨n,hn,rfl⟩:=fO hd;walk_at "n5";exact⟨⟨by decide,by decide⟩,by rw[take_snoc hn,List.map_append];rfl,some _,rfl⟩
 rintro ys Γc hk ⟨rfl,s,rfl⟩;rw[List.take_of_length_le (by rw[lM0];exact Nat.le_refl _)];walk_at "n5";refine⟨by rw[lM0,lM0,sizeLine_eq];omega,?_⟩;rw[show (smF ns).map (fun n=>D.int (n / 2))++(lfF ns).map D.int=(cp Rl.lean.pair Rl.lean.kg ns).map D.int by rw[<- GV,List.map_append,List.map_map];rfl];have sl2:(cp Rl.lean.pair Rl.lean.kg ns).length=(ns.length + 1) / 2:=nY .lean ns;generalize hS:cp Rl.lean.pair Rl.lean.kg ns=S at sl2;cases R with
 | guess=>exact absurd rfl hg
 | sum=>exact absurd rfl hs
 | half=>
  rw[Nz];walk_at "n5";refine⟨by rw[lM0,lM0,sizeLine_eq];omega,?_⟩;rw[<- List.map_append,<- hS];exact q
 | lean=>
  rw[Ny];walk_at "n5";refine⟨small (by rw[lK];omega),aS (fun k ys Γc=>ys=(List.range k).map (fun j=>D.int ((i8 ns).getD j 0 - iR S j))/\∃ s s',Γc=[fo s,fo s',some (.fz (il S))]) ⟨rfl,none,none,rfl⟩ ?_ ?_⟩
  ·rintro k d ys Γc hd hk ⟨rfl,s,s',rfl⟩;obtain⟨lt,rfl⟩:=pA hd;walk_at "n5";refine⟨S,k,rfl,by omega,by omega,?_⟩;walk_at "n5";exact⟨snoc rfl,some _,some _,rfl⟩
  ·rintro ys Γc hk ⟨rfl,s,s',rfl⟩;rw[lK,gpl,show (List.range (ns.length / 2)).map (fun j=>D.int ((i8 ns).getD j 0 - iR S j))=(Rl.lean.dif ns).map D.int by rw[jV,<- hS];rfl];walk_at "n5";refine⟨by rw[lM0,lM0,uP,sizeLine_eq];omega,?_⟩;rw[<- List.map_append,<- hS];exact q
theorem H8 {R:Rl} {rows:LL0} {w:Nat}:cq R rows 0 w=rows:=by unfold cq;simp
theorem Fs {R:Rl} {rows:LL0} {w k:Nat} {r:Li0} (h:rows[k]?=some r):(cq R rows k w).set k (gP R r w)=cq R rows (k + 1) w:=by
 have lt:=gN h;have lt':((rows.take k).map fun r=>gP R r w).length=k:=by rw[lM0,List.length_take];omega
 unfold cq;rw[List.set_append_right _ _ (by omega),lt',Nat.sub_self,List.drop_eq_getElem_cons lt,List.set_cons_zero,take_snoc h,List.map_append,List.append_assoc]
 rfl
theorem zw {R:Rl} {rows:LL0} {w k:Nat} {r:Li0} (h:rows[k]?=some r):(cq R rows k w)[k]?=some r:=by
 have lt:=gN h;have lt':((rows.take k).map fun r=>gP R r w).length=k:=by rw[lM0,List.length_take];omega
 unfold cq;rw[List.getElem?_append_right (by omega),lt',Nat.sub_self,List.getElem?_drop];exact h
theorem wR {R:Rl} {ns:Li0}:(spl R ns).length=ns.length:=by unfold spl;rw[List.length_append,nY,uP];omega
def Jl (l:Lt):List D->NR->(NR->Prop)->Prop:=fun ds xss k3=>∃ (R:Rl) (p:Addr) (h w H W:Nat),ds=[.str R.word,.adr p,pD h w]/\Sz H W xss/\H<=64/\W<=64/\h<=H/\w<=W/\Can l h w/\k3 (mK R H W l h w xss)
theorem oz (T:Txt K mg a):aG P w K mg base CX0 3 a.jb a.ix ["_law_word","_law_rows_here","_law_corner"] (spN K 3 (Jl .r)):=by
 refine okN T.cX.F ip (hbody:=fun cdv A outer s H E hr=>⟨_,_,(kT (AO PassesOwn.never rfl (bc (by rfl) T.z_range (ag (aO (by rfl) (bv 2) (P3.opd af) (fun _ _=>rfl)) az)) (aQ (i:=3) ip.nd rfl (Or.inl rfl))
   (kT (HL (bv 1) (bv 3) (aH (P3.opd (au (by rfl) (mP T) hr.dn (by rfl) T.cv.m T.cv.F.kp T.cv.b (aa (P3.opd (p3v 0)) (aa (P3.opd (cA (by rfl) (P3.opd (aO (by rfl) (bv 1) (bv 3) (fun _ _=>rfl))) bp (aX (P3.opd (aO (by rfl) (bv 2) (P3.opd af) (fun _ _=>rfl)))))) ab)))) (P3.opd (cA (by rfl) (P3.opd (aO (by rfl) (bv 1) (bv 3) (fun _ _=>rfl))) (aX (P3.opd (aO (by rfl) (bv 2) (P3.opd af) (fun _ _=>rfl)))) bp))))))),fun ds xss k3 h hl=>?_⟩)
 obtain⟨R,p,h,w,H,W,rfl,sz,H2,W2,lh,lw,⟨c1,_⟩,q⟩:=h;have hh:=sz.hh;have w2:2<=w:=by have:=c1 (by decide);omega
 show FE 1 _ _ _ _ [some (.fz (.str R.word)),some (.fz (.adr p)),some (.fz (pD h w)),none] xss;rw[uA];walk_at "n5";refine⟨by omega,by omega,x9 (fun k Γ yss=>k<=h/\yss=cq R xss k w/\∃ s3,Γ=[some (.fz (.str R.word)),some (.fz (.adr p)),some (.fz (pD h w)),fo s3]) ⟨Nat.zero_le _,H8.symm,none,rfl⟩ ?_ ?_⟩
 ·rintro k d Γ yss hd ⟨hk,rfl,s3,rfl⟩;obtain⟨lt,rfl⟩:=ck hd;rw[Int.toNat_natCast] at lt;obtain⟨r,hr'⟩:∃ r,xss[k]?=some r:=⟨_,gE0 (by omega)⟩;have lr:=sz.ww r (List.mem_of_getElem? hr');have hl':k < (cq R xss k w).length:=gN (zw hr');have at1:atI ((cq R xss k w).map fun ns=>D.lst (ns.map D.int)) (0 + (k:Int))=some (il r):=a8 (by omega) (by rw[List.getElem?_map,show (0 + (k:Int)).toNat=k by omega,zw hr'];rfl);refine⟨by cases s3 <;> trivial,rfl,?_⟩;show r_ 1 3 _ _ [some (.fz (.str R.word)),some (.fz (.adr p)),some (.fz (pD h w)),some (.fz (.int (0 + (k:Int))))] _;unfold r_ D8;walk_at "n5";rw[at1];walk_at "n5";rw[yl (by omega)];refine⟨R,r.take w,rfl,by rw[List.length_take];omega,by rw[List.length_take];omega,?_⟩;walk_at "n5";rw[at1];walk_at "n5";rw[lL (by omega)];refine⟨by rw[lM0,lM0,wR,List.length_take,List.length_drop,sizeLine_eq];omega,?_⟩;rw[<- List.map_append];refine⟨_,rfl,k,by rw[Int.zero_add];rfl,hl',lt,?_,some _,rfl⟩;exact Fs hr'
 ·rintro Γ yss ⟨hk,rfl,s3,rfl⟩;rw[bj,Int.toNat_natCast];exact q
noncomputable def mkR (H W:Nat) (f:Nat->Nat->Int):LL0:=(List.range H).map fun y=>(List.range W).map fun x=>f y x
noncomputable def en (rows:LL0) (y x:Nat):Int:=(rows.getD y []).getD x 0
theorem E_ {H W y:Nat} {f:Nat->Nat->Int} (h:y < H):(mkR H W f)[y]?=some ((List.range W).map (f y)):=by unfold mkR;rw[List.getElem?_map,List.getElem?_range h];rfl
theorem mk_congr {H W:Nat} {f g:Nat->Nat->Int} (h:∀ y x,y < H->x < W->f y x=g y x):mkR H W f=mkR H W g:=
 List.map_congr_left fun y hy=>List.map_congr_left fun x hx=>h y x (List.mem_range.mp hy) (List.mem_range.mp hx)
theorem BI {α:Type} {n k:Nat} {v:α} {g:Nat->α}:((List.range n).map g).set k v=(List.range n).map fun i=>if i=k then v else g i:=by
 refine List.ext_getElem? fun i=>?_;rw[List.getElem?_set];by_cases hi:i < n
 ·rw[List.getElem?_map,List.getElem?_map,List.getElem?_range hi];by_cases e:k=i
  ·subst e;rw[if_pos rfl,if_pos (by simpa using hi)];simp
  ·rw[if_neg e];simp [Ne.symm e]
 ·rw[List.getElem?_eq_none (l:=(List.range n).map fun i=>if i=k then v else g i) (by simp;omega)];split
  ·rw[if_neg (by simp;omega)]
  ·exact List.getElem?_eq_none (by simp;omega)
theorem KW {H W y x:Nat} {n:Int} {f:Nat->Nat->Int}:(mkR H W f).set y (((List.range W).map (f y)).set x n)=mkR H W fun y' x'=>if y'=y/\x'=x then n else f y' x':=by
 unfold mkR;rw[BI,BI];refine List.map_congr_left fun i _=>?_;by_cases e:i=y
 ·subst e;rw[if_pos rfl];exact List.map_congr_left fun j _=>by simp
 ·rw[if_neg e];exact List.map_congr_left fun j _=>(if_neg fun z=>e z.1).symm
theorem LL {H W:Nat} {rows:LL0} (s:Sz H W rows):rows=mkR H W (en rows):=by
 have hh:=s.hh;refine List.ext_getElem? fun y=>?_;by_cases hy:y < H
 ·rw[E_ hy,gE0 (by omega)]
  congr 1
  have hl:=s.ww _ (List.getElem_mem (show y < rows.length by omega));have eg:rows.getD y []=rows[y]'(by omega):=by simp [List.getD,show y < rows.length by omega]
  refine List.ext_getElem? fun x=>?_;by_cases hx:x < W
  ·rw[List.getElem?_map,List.getElem?_range hx,gE0 (by omega)];show _=some ((rows.getD y []).getD x 0);rw[eg];simp [List.getD,show x < (rows[y]'(by omega)).length by omega]
  ·rw[List.getElem?_eq_none (by omega),List.getElem?_eq_none (by simp;omega)]
 ·rw[List.getElem?_eq_none (by omega),List.getElem?_eq_none (by unfold mkR;simp;omega)]
theorem Bg {rows:LL0} {y x:Nat}:(c8 rows x).getD y 0=en rows y x:=by
 unfold c8 en;by_cases hy:y < rows.length
 ·simp [List.getD,hy]
 ·simp [List.getD,hy]
noncomputable def nwP (R:Rl) (xss:LL0) (h y x:Nat):Int:=(gP R (c8 xss x) h).getD y 0
noncomputable def kd (R:Rl) (xss:LL0) (h k j y x:Nat):Int:=if x < k\/(x=k/\y < j) then nwP R xss h y x else en xss y x
theorem Mo {R:Rl} {xss:LL0} {h y x:Nat} (hl:h<=xss.length) (hy:h<=y):nwP R xss h y x=en xss y x:=by
 have hc:(c8 xss x).length=xss.length:=by unfold c8;rw[lM0]
 have e:(spl R ((c8 xss x).take h)).length=h:=by unfold spl;rw[List.length_append,nY,uP,List.length_take,hc];omega
 unfold nwP gP;rw[<- Bg,List.getD_eq_getElem?_getD,List.getD_eq_getElem?_getD]
 congr 1
 show (spl R ((c8 xss x).take h)++(c8 xss x).drop h)[y]?=_;rw[List.getElem?_append_right (by omega),e,List.getElem?_drop]
 congr 1;omega
theorem Mn {R:Rl} {xss:LL0} {h y x:Nat} (hl:h<=xss.length) (hy:y < h):nwP R xss h y x=(spl R ((c8 xss x).take h)).getD y 0:=by
 have hc:(c8 xss x).length=xss.length:=by unfold c8;rw[lM0]
 have e:(spl R ((c8 xss x).take h)).length=h:=by unfold spl;rw[List.length_append,nY,uP,List.length_take,hc];omega
 unfold nwP gP;rw[List.getD_eq_getElem?_getD,List.getD_eq_getElem?_getD]
 congr 1
 show (spl R ((c8 xss x).take h)++(c8 xss x).drop h)[y]?=_;rw[List.getElem?_append_left (by omega)]
theorem L9 {R:Rl} {xss:LL0} {H W h:Nat} (s:Sz H W xss):mkR H W (kd R xss h 0 0)=xss:=by
 conv=>rhs;rw[LL s]
 refine mk_congr fun y x _ _=>?_;unfold kd;rw[if_neg (by omega)]
theorem Hm {R:Rl} {xss:LL0} {H W h k j:Nat} (hl:h<=xss.length) (hj:j < h) :
  (mkR H W (kd R xss h k j)).set j (((List.range W).map (kd R xss h k j j)).set k ((spl R ((c8 xss k).take h)).getD j 0))=mkR H W (kd R xss h k (j + 1)):=by
 rw[KW];refine mk_congr fun y x _ _=>?_;unfold kd;by_cases e:y=j/\x=k
 ·obtain⟨rfl,rfl⟩:=e;rw[if_pos ⟨rfl,rfl⟩,if_pos (by omega),Mn hl hj]
 ·rw[if_neg e];by_cases c:x < k\/(x=k/\y < j)
  ·rw[if_pos c,if_pos (by omega)]
  ·rw[if_neg c,if_neg (by omega)]
theorem Ey {R:Rl} {xss:LL0} {H W h k:Nat} (hl:h<=xss.length):mkR H W (kd R xss h k h)=mkR H W (kd R xss h (k + 1) 0):=by
 refine mk_congr fun y x _ _=>?_;unfold kd;by_cases c:x < k\/(x=k/\y < h)
 ·rw[if_pos c,if_pos (by omega)]
 ·rw[if_neg c];by_cases d:x < k + 1\/(x=k + 1/\y < 0)
  ·rw[if_pos d,Mo hl (by omega)]
  ·rw[if_neg d]
theorem Ft {R:Rl} {W w h:Nat} {c:Nat->Li0} (hw:w<=W):cq R ((List.range W).map c) w h=(List.range W).map fun x=>if x < w then gP R (c x) h else c x:=by
 unfold cq;refine List.ext_getElem? fun x=>?_;have hl:(((List.range W).map c).take w).length=w:=by simp;omega
 by_cases hx:x < w
 ·rw[List.getElem?_append_left (by rw[lM0,hl];exact hx),List.getElem?_map,List.getElem?_take_of_lt hx,List.getElem?_map,List.getElem?_map,List.getElem?_range (by omega)];simp [hx]
 ·rw[List.getElem?_append_right (by rw[lM0,hl];omega),lM0,hl,List.getElem?_drop,show w + (x - w)=x by omega,List.getElem?_map,List.getElem?_map];cases q:(List.range W)[x]? with
  | none=>rfl
  | some z=>
   have lt:=gN q;rw[List.length_range] at lt;rw[List.getElem?_range lt] at q;cases q;simp [hx]
theorem Hn {R:Rl} {xss:LL0} {H W h w:Nat} (hw:w<=W):mkR H W (kd R xss h w 0)=mK R H W .p h w xss:=by
 show _=eB H (cq R (eB W xss) w h);unfold eB;rw[Ft hw];refine List.map_congr_left fun y _=>?_;show _=((List.range W).map fun x=>if x < w then gP R (c8 xss x) h else c8 xss x).map fun r=>r.getD y 0;rw[List.map_map];refine List.map_congr_left fun x _=>?_;unfold kd nwP;show _=(if x < w then gP R (c8 xss x) h else c8 xss x).getD y 0;by_cases c:x < w
 ·rw[if_pos (.inl c),if_pos c]
 ·rw[if_neg (by omega),if_neg c,Bg]
theorem FV {xss:LL0} {H W h k:Nat} (s:Sz H W xss) (hl:h<=H):(List.range h).map (fun y=>en xss y k)=(c8 xss k).take h:=by
 refine List.ext_getElem? fun y=>?_;have hc:(c8 xss k).length=H:=by unfold c8;rw[lM0,s.hh]
 by_cases hy:y < h
 ·rw[List.getElem?_map,List.getElem?_range hy,List.getElem?_take_of_lt hy,Jx (by omega),Bg];rfl
 ·rw[List.getElem?_eq_none (by simp;omega),List.getElem?_eq_none (by rw[List.length_take];omega)]
theorem kQ (T:Txt K mg a):aG P w K mg base CX0 3 a.fU a.fu ["_law_word","_law_rows_here","_law_corner"] (spN K 3 (Jl .p)):=by
 refine okN T.cb.F bw (hbody:=fun cdv A outer s H E hr=>⟨_,_,(kT (AO PassesOwn.never rfl (bc (by rfl) T.z_range (ag (aO (by rfl) (bv 2) (P3.opd af) (fun _ _=>rfl)) az)) (aQ (i:=3) bw.nd rfl (Or.inr rfl))
   (BW (Mw (l:=4) (by decide) bw.nd rfl (Or.inl rfl) (au (by rfl) (mP T) hr.dn (by rfl) T.cv.m T.cv.F.kp T.cv.b (aa (P3.opd (p3v 0)) (aa (P3.opd (bC rfl (bc (by rfl) T.z_range (ag (aO (by rfl) (bv 2) (P3.opd af) (fun _ _=>rfl)) az)) dM (fun _ _ _ _ _=>(aQ (i:=0) dM.nd rfl (Or.inl rfl))) (fun _ _ _ _ _=>(aO (by rfl) (P3.opd (aO (by rfl) (bv 1) (bv 0) (fun _ _=>rfl))) (bv 2) (fun _ _=>rfl))))) ab))))
   (kT (AO PassesOwn.never rfl (sI (by rfl) T.z_enumerate (ag (p3v 4) az)) (fL (is:=[5,6]) (by rfl) (aJ (aP (i:=5) bw.nd rfl (Or.inl rfl)) (aJ (aP (i:=6) bw.nd rfl (Or.inl rfl)) bZ)) rfl)
   (kT (HM (by decide) (aO (by rfl) (bv 1) (bv 5) (fun _ _=>rfl)) (bv 3) (p3v 6)))))))),fun ds xss k3 h hl=>?_⟩)
 obtain⟨R,p,h,w,H,W,rfl,sz,H2,W2,lh,lw,⟨_,c2⟩,q⟩:=h;have hh:=sz.hh;have h2:2<=h:=by have:=c2 (by decide);omega
 show FE 1 _ _ _ _ [some (.fz (.str R.word)),some (.fz (.adr p)),some (.fz (pD h w)),none,none,none,none] xss;rw[uA];walk_at "n5";refine⟨by omega,by omega,x9 (fun k Γ yss=>k<=w/\yss=mkR H W (kd R xss h k 0)/\∃ s3 s4 s5 s6,Γ=[some (.fz (.str R.word)),some (.fz (.adr p)),some (.fz (pD h w)),fo s3,fo s4,fo s5,fo s6]) ⟨Nat.zero_le _,(L9 sz).symm,none,none,none,none,rfl⟩ ?_ ?_⟩
 ·rintro k d Γ yss hd ⟨hk,rfl,s3,s4,s5,s6,rfl⟩;obtain⟨lt,rfl⟩:=ck hd;rw[Int.toNat_natCast] at lt;refine⟨by cases s3 <;> trivial,rfl,?_⟩;show B4 1 4 _ _ [some (.fz (.str R.word)),some (.fz (.adr p)),some (.fz (pD h w)),some (.fz (.int (0 + (k:Int)))),fo s4,fo s5,fo s6] _;unfold B4 D8;walk_at "n5";rw[Int.toNat_natCast];refine⟨by omega,by omega,small (by rw[bj];omega),aS (fun m ys Γc=>ys=(List.range m).map (fun y=>D.int (en xss y k))/\∃ s,Γc=[fo s,some (.fz (.lst ((mkR H W (kd R xss h k 0)).map fun ns=>D.lst (ns.map D.int)))),some (.fz (.int (0 + (k:Int))))]) ⟨rfl,none,rfl⟩ ?_ ?_⟩
  ·rintro m d ys Γc hd hm ⟨rfl,s,rfl⟩;obtain⟨lm,rfl⟩:=ck hd;walk_at "n5";refine b8.mpr ⟨il ((List.range W).map (kd R xss h k 0 m)),a8 (by omega) (by rw[List.getElem?_map,show (0 + (m:Int)).toNat=m by omega,E_ (by omega)];rfl),?_⟩;walk_at "n5";refine b8.mpr ⟨.int (kd R xss h k 0 m k),a8 (by omega) (by rw[List.getElem?_map,List.getElem?_map,show (0 + (k:Int)).toNat=k by omega,List.getElem?_range (by omega)];rfl),?_⟩;exact⟨by rw[show kd R xss h k 0 m k=en xss m k by unfold kd;rw[if_neg (by omega)]];exact snoc rfl,some _,rfl⟩
  rintro ys Γc hm ⟨rfl,s,rfl⟩;rw[bj,jV,FV sz lh];walk_at "n5";have cl:((c8 xss k).take h).length=h:=by rw[List.length_take];unfold c8;rw[lM0];omega
  refine⟨R,(c8 xss k).take h,rfl,by omega,by omega,?_⟩;walk_at "n5";refine⟨_,rfl,by simp,?_⟩;show FE 1 _ _ _ _ [some (.fz (.str R.word)),some (.fz (.adr p)),some (.fz (pD h w)),some (.fz (.int (0 + (k:Int)))),some (.fz (il (spl R ((c8 xss k).take h)))),fo s5,fo s6] _;rw[uA];walk_at "n5";refine x9 (fun j Γ yss=>j<=h/\yss=mkR H W (kd R xss h k j)/\∃ s5 s6,Γ=[some (.fz (.str R.word)),some (.fz (.adr p)),some (.fz (pD h w)),some (.fz (.int (0 + (k:Int)))),some (.fz (il (spl R ((c8 xss k).take h)))),fo s5,fo s6]) ⟨Nat.zero_le _,rfl,s5,s6,rfl⟩ ?_ ?_
  ·rintro j d Γ yss hd ⟨hj,rfl,s5,s6,rfl⟩;obtain⟨lj,rfl⟩:=pA hd;rw[wR,cl] at lj;walk_at "n5";refine⟨j,k,_,_,rfl,by rw[Int.zero_add];rfl,rfl,E_ (by omega),by simp;omega,lj,Hm (by omega) lj,some _,some _,rfl⟩
  ·rintro Γ yss ⟨hj,rfl,s5,s6,rfl⟩;rw[lK,wR,cl,Ey (by omega)];exact⟨lt,rfl,some _,some _,s5,s6,rfl⟩
 ·rintro Γ yss ⟨hk,rfl,s3,s4,s5,s6,rfl⟩;rw[bj,Int.toNat_natCast,Hn lw];exact q
def ME:List D->NR->(NR->Prop)->Prop:=fun ds xss k3=>∃ (R:Rl) (p:Addr) (l:Lt) (h w H W:Nat),ds=[.str R.word,.adr p,.str l.s,pD h w]/\Sz H W xss/\H<=64/\W<=64/\h<=H/\w<=W/\Can l h w/\k3 (mK R H W l h w xss)
theorem xw (T:Txt K mg a):aG P w K mg base CX0 4 a.qZ a.o6 ["_law_word","_law_rows_here","_law_letter","_law_corner"] (spN K 4 ME):=by
 refine okN T.ij.F w4 (hbody:=fun cdv A outer s H E hr=>⟨_,_,(BW (Jd (aU Gn (bv 2) (P3.opd bF) (by with_unfolding_all rfl)) (kT (zh (oz T) hr.dn (by rfl) T.cX.m T.cX.F.kp T.cX.b (aa (P3.opd (p3v 0)) (aa (P3.opd (p3v 1)) (aa (P3.opd (p3v 3)) ab))))) E9)
   (kT (Jd (aU Gn (bv 2) (P3.opd bF) (by with_unfolding_all rfl)) (kT (zh (kQ T) hr.dn (by rfl) T.cb.m T.cb.F.kp T.cb.b (aa (P3.opd (p3v 0)) (aa (P3.opd (p3v 1)) (aa (P3.opd (p3v 3)) ab))))) E9))),fun ds xss k3 h hl=>?_⟩)
 obtain⟨R,p,l,h,w,H,W,rfl,sz,H2,W2,lh,lw,⟨c1,c2⟩,q⟩:=h;have i1:inT l.s (Str.ofString "rb")=!(l == .p):=by cases l <;> decide +kernel
 have i2:inT l.s (Str.ofString "pb")=!(l == .r):=by cases l <;> decide +kernel
 show ifN _ _ _ _ [some (.fz (.str R.word)),some (.fz (.adr p)),some (.fz (.str l.s)),some (.fz (pD h w))] xss;unfold ifN Gg;cases l
 ·walk_at "n8";rw[i1];refine⟨[.str R.word,.adr p,pD h w],rfl,p,rfl,rfl,R,p,h,w,H,W,rfl,sz,H2,W2,lh,lw,⟨c1,c2⟩,?_⟩;rw[i2];exact q
 ·walk_at "n8";rw[i1];show (fun (Γ:G) (xss:NR)=>_) _ _;unfold I_;walk_at "n8";rw[i2];exact⟨[.str R.word,.adr p,pD h w],rfl,p,rfl,rfl,R,p,h,w,H,W,rfl,sz,H2,W2,lh,lw,⟨c1,c2⟩,q⟩
 ·walk_at "n8";rw[i1];refine⟨[.str R.word,.adr p,pD h w],rfl,p,rfl,rfl,R,p,h,w,H,W,rfl,sz,H2,W2,lh,lw,⟨fun _=>c1 (by decide),fun z=>absurd rfl z⟩,?_⟩;rw[i2];exact⟨[.str R.word,.adr p,pD h w],rfl,p,rfl,rfl,R,p,h,w,H,W,rfl,ft sz lw,H2,W2,lh,lw,⟨fun z=>absurd rfl z,fun _=>c2 (by decide)⟩,q⟩
theorem J_ {r:Li0} (h:Fig r) (hl:r.length<=64):Sh (64 * 102 + 3) 2 (il r):=.lst (fun x hx=>by
 obtain⟨n,hn,rfl⟩:=List.mem_map.mp hx;have:=h n hn;exact .int (by omega)) (by rw[lM0];exact hl)
theorem GY {w:Nat} {R:LL0} (g:GR w R):Sh 500000 3 (rD R):=.up (.lst (n:=64 * 102 + 3) (k:=2) (l:=64) (fun x hx=>by
 obtain⟨r,hr,rfl⟩:=List.mem_map.mp hx;exact J_ (g.fig r hr) (by rw[g.len r hr];exact g.w2)) (by rw[lM0];exact g.h2)) (by decide) (by decide)
theorem big {d:D} (h:Sh 500000 3 d):Sh 10000000 20 d:=.up h (by decide) (by decide)
theorem oa {w:Nat} {R:LL0} (g:GR w R):okR (rD R):=.inl ⟨.inl rfl,big (GY g)⟩
theorem four {v:D} (h:v∈[D.str (Str.ofString "sum"),.str (Str.ofString "half"),.str (Str.ofString "guess"),.str (Str.ofString "lean")]):∃ R:Rl,v=.str R.word:=by
 simp only[List.mem_cons,List.not_mem_nil,or_false] at h;rcases h with rfl | rfl | rfl | rfl
 ·exact⟨.sum,rfl⟩
 ·exact⟨.half,rfl⟩
 ·exact⟨.guess,rfl⟩
 ·exact⟨.lean,rfl⟩
theorem NS:Str.ofString "r"=wy [.r]:=by decide +kernel
theorem vS:nr .lean (1:Nat) (3:Nat) [.r] [[1,4,9]]=[[2,9,-1]]:=by decide +kernel
theorem HD:rpr (rD [[2,9,-1]])=Str.ofString "[[2, 9, -1]]":=by decide +kernel
theorem xn:Pl (1:Nat) (3:Nat) [.r]:=⟨⟨by decide,by decide,by decide,by decide,by decide⟩,⟨⟨fun _=>by decide,fun z=>absurd rfl z⟩,trivial⟩,by decide⟩
theorem AH:BdR 100000 [[1,4,9]]:=fun r hr n hn=>by
 simp only[List.mem_cons,List.not_mem_nil,or_false] at hr;subst hr;simp only[List.mem_cons,List.not_mem_nil,or_false] at hn;rcases hn with rfl | rfl | rfl <;> omega
theorem AG:GR 3 [[1,4,9]]:=⟨by decide,by decide,by decide,by decide,by decide,fun r hr=>by
 simp only[List.mem_cons,List.not_mem_nil,or_false] at hr;subst hr;rfl,fun r hr=>Br (AH r hr) (by decide)⟩
theorem HR {u k:Nat} {G:LL0} (m:Made u k G) (s:vz (k:Int) (u:Int)):GR u G/\BdR 100000 G:=by
 obtain⟨a1,a2,a3,a4,a5⟩:=s;have e:=m.1;refine⟨IP (H:=k) (B:=100000) ⟨e,fun r hr=>(m.2 r hr).1⟩ (fun r hr=>(m.2 r hr).2) (by decide) (by omega) (by omega) (by omega) (by omega) ?_,fun r hr=>(m.2 r hr).2⟩
 exact_mod_cast a5
theorem Lx {xs ys:List D} {k:Nat} {d:D} (h:(g_ xs ys)[k]?=some d):∃ x y,xs[k]?=some x/\ys[k]?=some y/\d=.tup [x,y]:=gv h
set_option maxHeartbeats 8000000 in
theorem HH (T:Txt K mg a) (M:nU base a.dj qL):aG P w K mg base CX0 11 a.FI a.Bb ["_law_script"] (sp3 K 1 (Jp 63)):=by
 refine ok3 T.Ly.F du (hbody:=fun cdv A outer s H E hr=>⟨_,_,(ai (fG PassesOwn.never rfl (bc (by rfl) T.z_range (ag (aE (Gj rfl) (by rfl) T.z_max (by decide +kernel) (aa (P3.opd af) (aa (P3.opd (aE (Gi rfl) (by rfl) T.z_min (by decide +kernel) (aa (P3.opd (aE (dJ (by rfl)) (by rfl) T.z_len (by decide +kernel) (aa (bv 0) ab))) (aa (P3.opd af) ab)))) ab))) az)) (aQ (i:=1) du.nd rfl (Or.inl rfl))
   (ai (aN (i:=2) du.nd rfl (Or.inl rfl) (au (by rfl) (za T) hr.dn (by rfl) T.jq.m T.jq.F.kp T.jq.b (aa (P3.opd (au (by rfl) (xx T) hr.dn (by rfl) T.ik.m T.ik.F.kp T.ik.b (aa (P3.opd (p3v 0)) (aa (P3.opd (p3v 1)) ab)))) ab)))
   (ai (aN (i:=3) du.nd rfl (Or.inl rfl) (au (by rfl) (xu T) hr.dn (by rfl) T.h_.m T.h_.F.kp T.h_.b (aa (bv 2) ab)))
   (ai (aN (i:=4) du.nd rfl (Or.inl rfl) (aO (by rfl) (P3.opd (dD (ag bF (ag bF (ag bF (ag bF az)))))) (P3.opd (au (by rfl) (aV T) hr.dn (by rfl) T.ao.m T.ao.F.kp T.ao.b (aa (bv 2) (aa (P3.opd af) ab)))) (fun _ _=>rfl)))
   (ai (aN (i:=5) du.nd rfl (Or.inl rfl) (au (by rfl) (y_ T) hr.dn (by rfl) T.jo.m T.jo.F.kp T.jo.b (aa (bv 2) (aa (P3.opd (p3v 3)) ab))))
   (ai (aN (i:=6) du.nd rfl (Or.inl rfl) (au (by rfl) (xv T) hr.dn (by rfl) T.ig.m T.ig.F.kp T.ig.b (aa (bv 2) (aa (P3.opd (p3v 3)) ab))))
   (IY (He 15 15 7 (by decide) (by decide) (BP rfl EC) (dA (i:=7) du.nd rfl rfl rfl (cf (by rfl) (p3v 6)) md (fun _ _ _ _ _=>(aQ (i:=0) md.nd rfl (Or.inl rfl))) (fun _ _ _ _ _=>(bX (yz (by rfl)) (by rfl) T.z_list (by decide +kernel) (aa (bv 0) ab)))) (y8 rfl (cf (by rfl) (p3v 6)) md (fun _ _ _ _ _=>(aQ (i:=0) md.nd rfl (Or.inl rfl))) (fun _ _ _ _ _=>(bX (yz (by rfl)) (by rfl) T.z_list (by decide +kernel) (aa (bv 0) ab))))
   (ai (fG PassesOwn.never rfl (MR (by rfl) (by rfl) T.z_zip (ag (p3v 5) (ag (au (by rfl) (rH T) hr.dn (by rfl) T.dQ.m T.dQ.F.kp T.dQ.b (aa (P3.opd (p3v 3)) (aa (P3.opd (p3v 5)) ab))) az))) (fL (is:=[8,9]) (by rfl) (aJ (aP (i:=8) du.nd rfl (Or.inl rfl)) (aJ (aP (i:=9) du.nd rfl (Or.inl rfl)) bZ)) rfl)
   (Ep 15 7 15 (by decide) (BP rfl EC) (xw T) hr.dn (by rfl) T.ij.m T.ij.F.kp T.ij.b (aa (P3.opd (p3v 4)) (aa (P3.opd (p3v 7)) (aa (P3.opd (p3v 8)) (aa (P3.opd (p3v 9)) ab))))
   aR))
   (IY (ai (aN (i:=10) du.nd rfl (Or.inl rfl) (tX (oq T.mk_Plan (i7 T) hr.dn (by rfl) T.BY T.fB.b (ag (aO (by rfl) (bv 3) (P3.opd af) (fun _ _=>rfl)) (ag (aO (by rfl) (bv 3) (P3.opd af) (fun _ _=>rfl)) (ag (p3v 4) (ag (p3v 5) az)))))))
   (ai (aN (i:=11) du.nd rfl (Or.inl rfl) (tX (oq T.mk_Field (ej T) hr.dn (by rfl) T.kU T.cY.b (ag (y8 rfl (cf (by rfl) (p3v 6)) wC (fun _ _ _ _ _=>(aQ (i:=0) wC.nd rfl (Or.inl rfl))) (fun _ _ _ _ _=>(bX (yz (by rfl)) (by rfl) T.z_list (by decide +kernel) (aa (bv 0) ab)))) az))))
   (ak (fG PassesOwn.never rfl (bc (by rfl) T.z_range (ag af az)) (aQ (i:=12) du.nd rfl (Or.inl rfl))
   (ai (aN (i:=13) du.nd rfl (Or.inl rfl) (tX (au (by rfl) (vV T M) hr.dn (by rfl) T.gy.m T.gy.F.kp T.gy.b (aa (P3.opd (p3v 10)) (aa (P3.opd (p3v 11)) ab)))))
   (ai (bh (P3W.pt (nD (bU (bS (aE (JK (by rfl) T.zv) (by rfl) T.z_isinstance (by decide +kernel) (aa (bv 13) (aa (P3.opd (BU (by rfl) T.kU)) ab))))) (nD (aU (iW (by rfl) hr) (P3.opd (aE (pJ (by rfl) hr) (by rfl) T.z_repr (by decide +kernel) (aa (P3.opd (aZ (by rfl) (bv 13) T.bu T.fi (fh T) hr.dn T.dU.b)) ab))) (P3.opd (aE (pJ (by rfl) hr) (by rfl) T.z_repr (by decide +kernel) (aa (bv 7) ab))) (ba _)) (l4 (aU (iW (by rfl) hr) (P3.opd (aE (pJ (by rfl) hr) (by rfl) T.z_repr (by decide +kernel) (aa (P3.opd (aZ (by rfl) (bv 11) T.bu T.fi (fh T) hr.dn T.dU.b)) ab))) (P3.opd (aE (pJ (by rfl) hr) (by rfl) T.z_repr (by decide +kernel) (aa (bv 6) ab))) (ba _)))))) (ak (av kP)) aR)
   (ai (aN (i:=14) du.nd rfl (Or.inl rfl) (tX (au (by rfl) (vV T M) hr.dn (by rfl) T.gy.m T.gy.F.kp T.gy.b (aa (P3.opd (oq T.mk_Plan (i7 T) hr.dn (by rfl) T.BY T.fB.b (ag af (ag af (ag bF (ag bF az)))))) (aa (P3.opd (oq T.mk_Field (ej T) hr.dn (by rfl) T.kU T.cY.b (ag (dD (ag (dD (ag af (ag af (ag af az)))) az)) az))) ab)))))
   (ak (bh (aU (iW (by rfl) hr) (P3.opd (aE (pJ (by rfl) hr) (by rfl) T.z_repr (by decide +kernel) (aa (P3.opd (aZ (by rfl) (bv 14) T.bu T.fi (fh T) hr.dn T.dU.b)) ab))) (P3.opd bF) (ba _)) (ak (av kP)) aR)))))))))))))))))))
   (ak (av kP))),fun Γa Q h hl=>?_⟩)
 obtain⟨ns,rfl,hn,q⟩:=h;rw[J6];walk_at "n9";have m1:fmax 2 (fmin (ns.length:Int) 4)<=4:=by unfold fmax fmin;split <;> split <;> omega
 have m2:2<=fmax 2 (fmin (ns.length:Int) 4):=by unfold fmax fmin;split <;> split <;> omega
 refine⟨by omega,by omega,cB (fun k Γ=>∃ s1 s2 s3 s4 s5 s6 s7 s8 s9 s10 s11 s12 s13 s14,Γ=some (.fz (.scr ns))::fo s1::fw s2::fo s3::fo s4::fo s5::fo s6::fo s7::fo s8::fo s9::fo s10::fo s11::fo s12::fo s13::fo s14::tlG (nn 65++tlE)) ⟨none,none,none,none,none,none,none,none,none,none,none,none,none,none,rfl⟩ ?_ ?_⟩
 ·rintro k0 x Γ hd ⟨s1,s2,s3,s4,s5,s6,s7,s8,s9,s10,s11,s12,s13,s14,rfl⟩;obtain⟨lk,rfl⟩:=ck hd;walk_at "n9";refine⟨ns,_,rfl,by omega,fun r0=>?_⟩;walk_at "n9";refine⟨_,rfl,fun d0 b0=>?_⟩;walk_at "n9";refine⟨_,rfl,b0,fun h w d1 sz b1=>?_⟩;obtain⟨hn',rfl⟩:∃ m:Nat,h=m:=⟨h.toNat,by have:=sz.h1;omega⟩;obtain⟨u,rfl⟩:∃ m:Nat,w=m:=⟨w.toNat,by have:=sz.w1;omega⟩;walk_at "n9";refine⟨z4,d1,10,4,rfl,b1,by decide,by decide,by decide,fun r d2 l2 u2 b2=>?_⟩;walk_at "n9";refine pick (p:=fun d=>∃ R:Rl,d=.str R.word) l2 u2 (fun _=>four) ?_;rintro _ ⟨R,rfl⟩;walk_at "n9";refine⟨d2,_,_,rfl,sz,b2,fun ls d3 hls g b3=>?_⟩;walk_at "n9";refine⟨d3,_,_,rfl,b3,sz,fun G d4 m=>?_⟩;have eh:hn'=G.length:=by have:=m.1;omega
  subst eh;obtain⟨gG,bG⟩:GR u G/\BdR 100000 G:=HR (u:=u) (k:=G.length) m sz;have pl:Pl G.length u ls:=⟨sz,g,hls⟩;have g2:=gG.h2;have rl:(bg G).length=G.length:=by unfold bg;rw[lM0]
  walk_at "n9";refine IK Wk.refl ?_;walk_at "n9";refine⟨small (by rw[lM0];omega),wB (fun k ys Γc=>ys=bg (G.take k)/\∃ s,Γc=[fo s]) ⟨rfl,none,rfl⟩ ?_ ?_⟩
  ·rintro j d ys Γc hd hj ⟨rfl,s,rfl⟩;obtain⟨r,hr,rfl⟩:=fO hd;walk_at "n9";exact⟨by rw[take_snoc hr,show bg (G.take j++[r])=bg (G.take j)++bg [r] from List.map_append];rfl,some _,rfl⟩
  rintro ys Γc hj ⟨rfl,s,rfl⟩;rw[List.take_of_length_le (by rw[lM0];exact Nat.le_refl _)];walk_at "n9";refine Hg (L:=15) (pre:=[_,_,_,_,_,_,_,_,_,_,_,_,_,_,_]) (T:=tlE) (m:=65) rfl rfl (by decide) (by cases s7 <;> trivial) (by omega) fun p qs hl=>?_;have hl':qs.length=G.length:=by omega
  rw[hl'];walk_at "n9";refine⟨_,_,ls,rfl,hls,?_⟩;walk_at "n9";refine⟨Af ls,by rw[Bx,lM0,fv];omega,cB (fun k Γ=>k<=ls.length/\∃ s8 s9 qs,qs.length=G.length/\Γ=some (.fz (.scr ns))::some (.fz (.int (0 + (k0:Int))))::some (.ow d4)::some (.fz (pD G.length u))::some (.fz (.str R.word))::some (.fz (.str (wy ls)))::some (.fz (rD G))::some (.fz (.adr p))::fo s8::fo s9::fo s10::fo s11::fo s12::fo s13::fo s14::tlG (gh .ow p (qs.map .adr) qs (bg (stK R G.length u ls G k))++(nn (65 - (G.length + 1))++tlE))) ⟨Nat.zero_le _,s8,s9,qs,hl',rfl⟩ ?_ ?_⟩
  ·rintro k d Γ hd ⟨hk,s8,s9,qs,hq,rfl⟩;obtain⟨x,y,hx,hy,rfl⟩:=gv hd;rw[kn] at hx;obtain⟨l,hl,rfl⟩:=xI hx;have lt:=gN hl;rw[FW (by omega)] at hy;cases hy;obtain⟨e,c1,c2,c3,c4⟩:=pl.cn (k:=k) hk;have can:=sM pl.good hl;rw[e] at can;have ec:cD (cat G.length u ls k)=pD (cN G.length u ls k).1 (cN G.length u ls k).2:=by rw[e];rfl
   rw[ec];have eg:ls.getD k .r=l:=by simp [List.getD,hl]
   have sk:=p6 (R:=R) pl (zI gG) hk;have sk1:=p6 (R:=R) pl (zI gG) (k:=k + 1) lt;walk_at "n9";have w2:=gG.w2;refine DI (L:=15) (qs:=qs) (xss:=stK R G.length u ls G k) (ds:=[.str R.word,.adr p,.str l.s,pD (cN G.length u ls k).1 (cN G.length u ls k).2]) (pre:=[_,_,_,_,_,_,_,_,_,_,_,_,_,_,_]) (fun yss=>yss=stK R G.length u ls G (k + 1)) rfl rfl (by decide) rfl (by rw[sk.hh];exact hq) rfl ⟨R,p,l,_,_,G.length,u,rfl,sk,g2,w2,c1,c2,can,?_⟩ ?_
   ·show mK R G.length u l _ _ _=mK R (G.length:Int).toNat (u:Int).toNat (ls.getD k .r) (cN G.length u ls k).1 (cN G.length u ls k).2 (stK R G.length u ls G k);rw[eg];rfl
   ·rintro _ rfl;refine⟨by rw[sk.hh,sk1.hh],fun qs' hq'=>?_⟩;exact⟨lt,some _,some _,qs',by rw[hq',sk1.hh];rfl,rfl⟩
  rintro Γ ⟨hk,s8,s9,qs,hq,rfl⟩;rw[sR,lX,Bx,lM0,fv,show min ls.length (ls.length + 1)=ls.length by omega];have gS:GR u (stK R G.length u ls G ls.length):=tm (R:=R) gG pl bG;have sS:=p6 (R:=R) pl (zI gG) (Nat.le_refl ls.length);have hS:stK R G.length u ls G ls.length=nr R G.length u ls G:=rfl;generalize eS:stK R G.length u ls G ls.length=S at gS sS hS ⊢;walk_at "n9";refine IK (wkR (i:=7) (L:=15) (pre:=[_,_,_,_,_,_,_,_,_,_,_,_,_,_,_]) rfl (by decide) rfl (by unfold bg;rw[lM0,sS.hh];exact hq)) ?_;rw[show qs.length + 1 + (65 - (G.length + 1))=65 by omega,show (bg S).map D.lst=S.map il by unfold bg;rw[List.map_map];rfl];walk_at "n9";refine⟨R,_,_,ls,rfl,sz,g,hls,?_⟩;walk_at "n9";refine⟨small (by rw[lM0];omega),wB (fun k ys Γc=>ys=bg (G.take k)/\∃ s,Γc=[fo s]) ⟨rfl,none,rfl⟩ ?_ ?_⟩
  ·rintro j d ys Γc hd hj ⟨rfl,s,rfl⟩;obtain⟨r,hr,rfl⟩:=fO hd;walk_at "n9";exact⟨by rw[take_snoc hr,show bg (G.take j++[r])=bg (G.take j)++bg [r] from List.map_append];rfl,some _,rfl⟩
  rintro ys Γc hj ⟨rfl,s,rfl⟩;rw[List.take_of_length_le (by rw[lM0];exact Nat.le_refl _)];walk_at "n9";rw[show (bg G).map D.lst=G.map il by unfold bg;rw[List.map_map];rfl];refine⟨u,G,rfl,gG,?_⟩;walk_at "n9";refine⟨by omega,by omega,cB (fun j Γ=>∃ s12 s13 s14,Γ=some (.fz (.scr ns))::some (.fz (.int (0 + (k0:Int))))::some (.ow d4)::some (.fz (pD G.length u))::some (.fz (.str R.word))::some (.fz (.str (wy ls)))::some (.fz (rD G))::some (.fz (rD S))::fo s8::fo s9::some (.fz (plD a R G.length u ls))::some (.fz (fD a G))::fo s12::fo s13::fo s14::tlG (nn 65++tlE)) ⟨s12,s13,s14,rfl⟩ ?_ ?_⟩
  ·rintro j d Γ hd ⟨s12,s13,s14,rfl⟩;walk_at "n9";refine⟨R,ls,u,G,rfl,gG,pl,bG,?_⟩;rw[<- hS];walk_at "n9";refine⟨true,by simp [HB],?_⟩;walk_at "n9";refine⟨by decide +kernel,u,S,rfl,gS,?_⟩;walk_at "n9";refine⟨oa gS,oa gS,?_⟩;walk_at "n9";refine⟨by decide +kernel,u,G,rfl,gG,?_⟩;walk_at "n9";refine⟨oa gG,oa gG,?_⟩;walk_at "n9";rw[NS];refine⟨.lean,1,3,[.r],rfl,xn.sz,xn.good,by decide,?_⟩;walk_at "n9";refine⟨z3,z1,3,[[1,4,9]],rfl,AG,?_⟩;walk_at "n9";refine⟨.lean,[.r],3,[[1,4,9]],rfl,AG,xn,AH,?_⟩;rw[show nr .lean (([[1,4,9]]:LL0).length:Int) (3:Nat) [.r] [[1,4,9]]=[[2,9,-1]] from vS];walk_at "n9";have gO:GR 3 [[2,9,-1]]:=by
    have:=tm (R:=.lean) AG xn AH;rw[show nr .lean (([[1,4,9]]:LL0).length:Int) (3:Nat) [.r] [[1,4,9]]=[[2,9,-1]] from vS] at this;exact this
   refine⟨by decide +kernel,3,_,rfl,gO,?_⟩;walk_at "n9";refine⟨oa gO,?_⟩;rw[HD];walk_at "n9";exact⟨some _,some _,some _,rfl⟩
  ·rintro Γ ⟨s12,s13,s14,rfl⟩;exact⟨some _,some _,some _,some _,some _,some _,some _,s8,s9,some _,some _,s12,s13,s14,rfl⟩
 ·rintro Γ ⟨s1,s2,s3,s4,s5,s6,s7,s8,s9,s10,s11,s12,s13,s14,rfl⟩;walk_at "n9";exact q _
def wU (K:Fg0):Sp:=fun vs H Q _=>∃ (p:Addr) (ns:Li0),vs=[.ref p]/\SqL K H p (ns.map V.int)/\ns.length<=63/\∀ H',Q (.bl true) H'
theorem KP (T:Txt K mg a) (M:nU base a.dj qL):aG P w K mg base CX0 11 a.FI a.Bb ["_law_script"] (wU K):=K1 (HH T M)
set_option bootstrap.genMatcherCode true in
local macro_rules | `(tactic| walk_at "bn")=>`(tactic| (intro _ _ _ _ _ _ us hl;first | (have h:=ln0 hl;subst h;rfl) | (obtain⟨_,h⟩:=ln1 hl;subst h;rfl) | (obtain⟨_,_,h⟩:=ln2 hl;subst h;rfl) | (obtain⟨_,_,_,h⟩:=ln3 hl;subst h;rfl) | (obtain⟨_,_,_,_,h⟩:=ln4 hl;subst h;rfl) | (obtain⟨_,_,_,_,_,h⟩:=ln5 hl;subst h;rfl)))
theorem all_mk {l:PySem.W.OpenLaw} {w:World} {K:Fg0} {h:Heap} {mg:SV} {fa:Addr} (X:K.In h) (G:h.Ns mainGlobals mg) (hfa:mg "law"=some (.ref fa))
  {aI:Addr}
  {aL:Addr}
  {aT:Addr}
  {aK:Addr}
  {aW:Addr}
  {bz:Addr}
  {a_:Addr} {od_ALONG_PILLARS:Option Addr} {nn_ALONG_PILLARS:Nat} {sl_ALONG_PILLARS:Array (Option Value)} {tk_ALONG_PILLARS_0:Tok} {tk_ALONG_PILLARS_1:Tok}
  {bL:Addr} {od_ALONG_ROWS:Option Addr} {nn_ALONG_ROWS:Nat} {sl_ALONG_ROWS:Array (Option Value)} {tk_ALONG_ROWS_0:Tok} {tk_ALONG_ROWS_1:Tok}
  {f0 f1 f2 f3 f4 f5 f6 f7 f8 f9 f10 f11 f12 f13 f14 f15 f16 f17 f18 f19 f20 f21 f22 f23 f24 f25 f26 f27 f28 f29 f30 f31 f32 f33 f34 f35 f36 f37 f38 f39 f40 f41 f42 f43 f44 f45 f46 f47 f48 f49 f50 f51 f52 f53 f54 f55 f56 f57 f58 f59 f60 f61 f62 f63 f64 f65 f66 f67 f68:Addr} {d0 d1 d2 d3 d4 d5 d6 d7 d8 d9 d10 d11 d12 d13 d14 d15 d16 d17 d18 d19 d20 d21 d22 d23 d24 d25 d26 d27 d28 d29 d30 d31 d32 d33 d34 d35 d36 d37 d38 d39 d40 d41 d42 d43 d44 d45 d46 d47 d48 d49 d50 d51 d52 d54 d55 d56 d57 d58 d59 d60 d61 d62 d63 d64 d65 d66 d67 d68:FuncData}
  {od53 an53:Option Addr} {sl53:Array (Option Value)} {oc53 kV53 dc53 pm53 ct53:Value}
  {ey dj:Addr}
  {t_MOST_NUMBER:Tok}
  {t_MOST_PLACES:Tok}
  {t_MOST_SIDE:Tok}
  {t_MOST_VALUE:Tok}
  (aC_Field:PySem.W.nsIn K mainGlobals "Field"=some (some (.ref aI)))
  (pg_Field:PySem.W.plainGet K aI Str.empty=true)
  (hd_Field:PySem.W.hasDictIn K aI=true)
  (po_Field:PySem.W.plainOver K aI=true)
  (sa_Field:PySem.W.findIn K (.ref aI) "__setattr__"=some (some (.builtin "object.__setattr__")))
  (mk_Field:PySem.W.makesIn K aI=true)
  (kc_Field:PySem.W.keepIn K (.ref aI)=true)
  (aC_Guessed:PySem.W.nsIn K mainGlobals "Guessed"=some (some (.ref aL)))
  (pg_Guessed:PySem.W.plainGet K aL Str.empty=true)
  (hd_Guessed:PySem.W.hasDictIn K aL=true)
  (po_Guessed:PySem.W.plainOver K aL=true)
  (sa_Guessed:PySem.W.findIn K (.ref aL) "__setattr__"=some (some (.builtin "object.__setattr__")))
  (mk_Guessed:PySem.W.makesIn K aL=true)
  (kc_Guessed:PySem.W.keepIn K (.ref aL)=true)
  (in_Guessed:PySem.W.findIn K (.ref aL) "__init__"=some (some (.builtin "object.__init__")))
  (aC_Halves:PySem.W.nsIn K mainGlobals "Halves"=some (some (.ref aT)))
  (pg_Halves:PySem.W.plainGet K aT Str.empty=true)
  (hd_Halves:PySem.W.hasDictIn K aT=true)
  (po_Halves:PySem.W.plainOver K aT=true)
  (sa_Halves:PySem.W.findIn K (.ref aT) "__setattr__"=some (some (.builtin "object.__setattr__")))
  (mk_Halves:PySem.W.makesIn K aT=true)
  (kc_Halves:PySem.W.keepIn K (.ref aT)=true)
  (in_Halves:PySem.W.findIn K (.ref aT) "__init__"=some (some (.builtin "object.__init__")))
  (aC_Leaning:PySem.W.nsIn K mainGlobals "Leaning"=some (some (.ref aK)))
  (pg_Leaning:PySem.W.plainGet K aK Str.empty=true)
  (hd_Leaning:PySem.W.hasDictIn K aK=true)
  (po_Leaning:PySem.W.plainOver K aK=true)
  (sa_Leaning:PySem.W.findIn K (.ref aK) "__setattr__"=some (some (.builtin "object.__setattr__")))
  (mk_Leaning:PySem.W.makesIn K aK=true)
  (kc_Leaning:PySem.W.keepIn K (.ref aK)=true)
  (in_Leaning:PySem.W.findIn K (.ref aK) "__init__"=some (some (.builtin "object.__init__")))
  (aC_Plan:PySem.W.nsIn K mainGlobals "Plan"=some (some (.ref aW)))
  (pg_Plan:PySem.W.plainGet K aW Str.empty=true)
  (hd_Plan:PySem.W.hasDictIn K aW=true)
  (po_Plan:PySem.W.plainOver K aW=true)
  (sa_Plan:PySem.W.findIn K (.ref aW) "__setattr__"=some (some (.builtin "object.__setattr__")))
  (mk_Plan:PySem.W.makesIn K aW=true)
  (kc_Plan:PySem.W.keepIn K (.ref aW)=true)
  (aC_Sums:PySem.W.nsIn K mainGlobals "Sums"=some (some (.ref bz)))
  (pg_Sums:PySem.W.plainGet K bz Str.empty=true)
  (hd_Sums:PySem.W.hasDictIn K bz=true)
  (po_Sums:PySem.W.plainOver K bz=true)
  (sa_Sums:PySem.W.findIn K (.ref bz) "__setattr__"=some (some (.builtin "object.__setattr__")))
  (mk_Sums:PySem.W.makesIn K bz=true)
  (kc_Sums:PySem.W.keepIn K (.ref bz)=true)
  (in_Sums:PySem.W.findIn K (.ref bz) "__init__"=some (some (.builtin "object.__init__")))
  (n_Field_grid:PySem.W.findIn K (.ref aI) "grid"=some none)
  (n_Plan_chosen:PySem.W.findIn K (.ref aW) "chosen"=some none)
  (n_Plan_corners:PySem.W.findIn K (.ref aW) "corners"=some none)
  (n_Plan_letters:PySem.W.findIn K (.ref aW) "letters"=some none)
  (q_ALONG_PILLARS:PySem.W.nsIn K mainGlobals "ALONG_PILLARS"=some (some (.ref a_)))
  (lk_ALONG_PILLARS:K.lookup a_=some ⟨.type "tuple",od_ALONG_PILLARS,.seq #[.str (Str.ofString "p") tk_ALONG_PILLARS_0,.str (Str.ofString "b") tk_ALONG_PILLARS_1] nn_ALONG_PILLARS,sl_ALONG_PILLARS⟩)
  (q_ALONG_ROWS:PySem.W.nsIn K mainGlobals "ALONG_ROWS"=some (some (.ref bL)))
  (lk_ALONG_ROWS:K.lookup bL=some ⟨.type "tuple",od_ALONG_ROWS,.seq #[.str (Str.ofString "r") tk_ALONG_ROWS_0,.str (Str.ofString "b") tk_ALONG_ROWS_1] nn_ALONG_ROWS,sl_ALONG_ROWS⟩)
  (y_bs:PySem.W.kitOne K (.type "bool") (.type "str")=some false)
  (y_is:PySem.W.kitOne K (.type "int") (.type "str")=some false)
  (y_ns:PySem.W.kitOne K (.type "NoneType") (.type "str")=some false)
  (y_ss:PySem.W.kitOne K (.type "str") (.type "str")=some true)
  (y_ls:PySem.W.kitOne K (.type "list") (.type "str")=some false)
  (y_ts:PySem.W.kitOne K (.type "tuple") (.type "str")=some false)
  (y_ds:PySem.W.kitOne K (.type "dict") (.type "str")=some false)
  (F0:FN K "is_whole" "is_whole" ny f0 d0)
  (F1:FN K "is_number" "is_number" kA f1 d1)
  (F2:FN K "is_row" "is_row" n9 f2 d2)
  (F3:FN K "is_size" "is_size" qc f3 d3)
  (F4:FN K "is_place_within" "is_place_within" dY f4 d4)
  (F5:FN K "are_rows" "are_rows" gD f5 d5)
  (F6:FM K aI "__init__" "Field.__init__" c6 f6 d6)
  (F7:FM K aI "height" "Field.height" gJ f7 d7)
  (F8:FM K aI "width" "Field.width" iL f8 d8)
  (F9:FM K aI "rows" "Field.rows" gc f9 d9)
  (F10:FM K aI "places" "Field.places" d_ f10 d10)
  (F11:FM K aI "is_place" "Field.is_place" eM f11 d11)
  (F12:FM K aI "at" "Field.at" nC f12 d12)
  (F13:FN K "size_of" "size_of" qa f13 d13)
  (F14:FN K "check_field" "check_field" iF f14 d14)
  (F15:FN K "check_size" "check_size" jA f15 d15)
  (F16:FN K "check_bounds" "check_bounds" gC f16 d16)
  (F17:FN K "check_picture" "check_picture" fE f17 d17)
  (F18:FN K "pairs_of" "pairs_of" nv f18 d18)
  (F19:FN K "gaps_of" "gaps_of" lZ f19 d19)
  (F20:FM K bz "word" "Sums.word" kI f20 d20)
  (F21:FM K aL "halves" "Sums.halves" iH f21 d21)
  (F22:FM K aT "parted" "Sums.parted" iG f22 d22)
  (F23:FM K aL "sums_of" "Sums.sums_of" dZ f23 d23)
  (F24:FM K aL "sum_of_pair" "Sums.sum_of_pair" dv f24 d24)
  (F25:FM K aL "sum_of_lone" "Sums.sum_of_lone" dz f25 d25)
  (F26:FM K aT "word" "Halves.word" iK f26 d26)
  (F27:FM K aT "sum_of_pair" "Halves.sum_of_pair" cL f27 d27)
  (F28:FM K aT "sum_of_lone" "Halves.sum_of_lone" cM f28 d28)
  (F29:FN K "near" "near" Av f29 d29)
  (F30:FN K "guesses" "guesses" lY f30 d30)
  (F31:FN K "lifts" "lifts" sf f31 d31)
  (F32:FN K "leans" "leans" sg f32 d32)
  (F33:FM K aL "word" "Guessed.word" gI f33 d33)
  (F34:FM K aL "parted" "Guessed.parted" cj f34 d34)
  (F35:FM K aK "word" "Leaning.word" gH f35 d35)
  (F36:FM K aK "parted" "Leaning.parted" c5 f36 d36)
  (F37:FN K "all_rules" "all_rules" kD f37 d37)
  (F38:FN K "rule_of" "rule_of" qb f38 d38)
  (F39:FN K "can_halve" "can_halve" kC f39 d39)
  (F40:FN K "corners_of" "corners_of" jz f40 d40)
  (F41:FM K aW "__init__" "Plan.__init__" fF f41 d41)
  (F42:FM K aW "height" "Plan.height" iI f42 d42)
  (F43:FM K aW "width" "Plan.width" jD f43 d43)
  (F44:FM K aW "rule" "Plan.rule" kJ f44 d44)
  (F45:FM K aW "way" "Plan.way" nB f45 d45)
  (F46:FM K aW "steps" "Plan.steps" jE f46 d46)
  (F47:FM K aW "corner" "Plan.corner" iJ f47 d47)
  (F48:FN K "turned" "turned" n8 f48 d48)
  (F49:FN K "halve_row" "halve_row" kB f49 d49)
  (F50:FN K "halve_rows" "halve_rows" gb f50 d50)
  (F51:FN K "step_forth" "step_forth" jw f51 d51)
  (F52:FN K "steps_forth" "steps_forth" iE f52 d52)
  (a53:PySem.W.nsIn K mainGlobals "halved"=some (some (.ref f53)))
  (l53:K.lookup f53=some ⟨oc53,od53,.func (PySem.W.fnOf "halved" "halved" (gi cK) (c7 cK) (ae cK) .none kV53 dc53 pm53 an53 (.ref ey) ct53),sl53⟩)
  (c53:PySem.W.codeIn K (.ref ey) "halved"=true)
  (k53:PySem.W.keepIn K (.ref f53)=true)
  (k_hd_halved:PySem.W.codeHdIn K ey dj=true)
  (k_kp_halved:K.lookup dj=none)
  (F54:FN K "_law_cell" "_law_cell" kH f54 d54)
  (F55:FN K "_law_box" "_law_box" nA f55 d55)
  (F56:FN K "_law_take" "_law_take" kE f56 d56)
  (F57:FN K "_law_size" "_law_size" kF f57 d57)
  (F58:FN K "_law_way" "_law_way" nz f58 d58)
  (F59:FN K "_law_corners" "_law_corners" gF f59 d59)
  (F60:FN K "_law_value" "_law_value" jB f60 d60)
  (F61:FN K "_law_rows" "_law_rows" dH f61 d61)
  (F62:FN K "_law_guessed" "_law_guessed" gE f62 d62)
  (F63:FN K "_law_leans" "_law_leans" jC f63 d63)
  (F64:FN K "_law_split" "_law_split" bY f64 d64)
  (F65:FN K "_law_rows_done" "_law_rows_done" eL f65 d65)
  (F66:FN K "_law_pillars_done" "_law_pillars_done" cc f66 d66)
  (F67:FN K "_law_done" "_law_done" kG f67 d67)
  (F68:FN K "law" "law" vK f68 d68)
  (e_Halves_halves:PySem.W.findIn K (.ref aT) "halves"=some (some (.ref f21)))
  (e_Halves_sums_of:PySem.W.findIn K (.ref aT) "sums_of"=some (some (.ref f23)))
  (e_Leaning_sum_of_pair:PySem.W.findIn K (.ref aK) "sum_of_pair"=some (some (.ref f27)))
  (e_Leaning_sum_of_lone:PySem.W.findIn K (.ref aK) "sum_of_lone"=some (some (.ref f28)))
  (e_Leaning_halves:PySem.W.findIn K (.ref aK) "halves"=some (some (.ref f21)))
  (e_Leaning_sums_of:PySem.W.findIn K (.ref aK) "sums_of"=some (some (.ref f23)))
  (e_Sums_halves:PySem.W.findIn K (.ref bz) "halves"=some (some (.ref f21)))
  (e_Sums_parted:PySem.W.findIn K (.ref bz) "parted"=some (some (.ref f22)))
  (e_Sums_sums_of:PySem.W.findIn K (.ref bz) "sums_of"=some (some (.ref f23)))
  (e_Sums_sum_of_pair:PySem.W.findIn K (.ref bz) "sum_of_pair"=some (some (.ref f24)))
  (e_Sums_sum_of_lone:PySem.W.findIn K (.ref bz) "sum_of_lone"=some (some (.ref f25)))
  (q_MOST_NUMBER:PySem.W.nsIn K mainGlobals "MOST_NUMBER"=some (some (.int 999999999999999 t_MOST_NUMBER)))
  (q_MOST_PLACES:PySem.W.nsIn K mainGlobals "MOST_PLACES"=some (some (.int 512 t_MOST_PLACES)))
  (q_MOST_SIDE:PySem.W.nsIn K mainGlobals "MOST_SIDE"=some (some (.int 64 t_MOST_SIDE)))
  (q_MOST_VALUE:PySem.W.nsIn K mainGlobals "MOST_VALUE"=some (some (.int 100000 t_MOST_VALUE)))
  (oc_Field:PySem.W.findIn K (.ref aI) "__class__"=some (some (.builtin "object.__class__")))
  (og_Field:PySem.W.specialIn K (.builtin "object.__class__") "__get__"=some (some (.builtin "getset_descriptor.__get__")))
  (ot_Field:PySem.W.takesIn K (.builtin "object.__class__")=some true)
  (ob_Field:PySem.W.mroIn K aI (.type "object")=some true)
  (y_oo_Field:PySem.W.kitOne K (.ref aI) (.ref aI)=some true)
  (y_ob_Field:PySem.W.kitOne K (.type "bool") (.ref aI)=some false)
  (y_oi_Field:PySem.W.kitOne K (.type "int") (.ref aI)=some false)
  (y_on_Field:PySem.W.kitOne K (.type "NoneType") (.ref aI)=some false)
  (y_os_Field:PySem.W.kitOne K (.type "str") (.ref aI)=some false)
  (y_ol_Field:PySem.W.kitOne K (.type "list") (.ref aI)=some false)
  (y_ot_Field:PySem.W.kitOne K (.type "tuple") (.ref aI)=some false)
  (y_od_Field:PySem.W.kitOne K (.type "dict") (.ref aI)=some false)
  (z_all:PySem.W.nsIn K mainGlobals "all"=some none)
  (z_bool:PySem.W.nsIn K mainGlobals "bool"=some none)
  (z_enumerate:PySem.W.nsIn K mainGlobals "enumerate"=some none)
  (z_int:PySem.W.nsIn K mainGlobals "int"=some none)
  (z_isinstance:PySem.W.nsIn K mainGlobals "isinstance"=some none)
  (z_len:PySem.W.nsIn K mainGlobals "len"=some none)
  (z_list:PySem.W.nsIn K mainGlobals "list"=some none)
  (z_max:PySem.W.nsIn K mainGlobals "max"=some none)
  (z_min:PySem.W.nsIn K mainGlobals "min"=some none)
  (z_range:PySem.W.nsIn K mainGlobals "range"=some none)
  (z_repr:PySem.W.nsIn K mainGlobals "repr"=some none)
  (z_str:PySem.W.nsIn K mainGlobals "str"=some none)
  (z_tuple:PySem.W.nsIn K mainGlobals "tuple"=some none)
  (z_zip:PySem.W.nsIn K mainGlobals "zip"=some none)
  (y_bb:PySem.W.kitOne K (.type "bool") (.type "bool")=some true)
  (y_bi:PySem.W.kitOne K (.type "bool") (.type "int")=some true)
  (y_bl:PySem.W.kitOne K (.type "bool") (.type "list")=some false)
  (y_bt:PySem.W.kitOne K (.type "bool") (.type "tuple")=some false)
  (y_ib:PySem.W.kitOne K (.type "int") (.type "bool")=some false)
  (y_ii:PySem.W.kitOne K (.type "int") (.type "int")=some true)
  (y_il:PySem.W.kitOne K (.type "int") (.type "list")=some false)
  (y_it:PySem.W.kitOne K (.type "int") (.type "tuple")=some false)
  (y_nb:PySem.W.kitOne K (.type "NoneType") (.type "bool")=some false)
  (y_ni:PySem.W.kitOne K (.type "NoneType") (.type "int")=some false)
  (y_nl:PySem.W.kitOne K (.type "NoneType") (.type "list")=some false)
  (y_nt:PySem.W.kitOne K (.type "NoneType") (.type "tuple")=some false)
  (y_sb:PySem.W.kitOne K (.type "str") (.type "bool")=some false)
  (y_si:PySem.W.kitOne K (.type "str") (.type "int")=some false)
  (y_sl:PySem.W.kitOne K (.type "str") (.type "list")=some false)
  (y_st:PySem.W.kitOne K (.type "str") (.type "tuple")=some false)
  (y_lb:PySem.W.kitOne K (.type "list") (.type "bool")=some false)
  (y_li:PySem.W.kitOne K (.type "list") (.type "int")=some false)
  (y_ll:PySem.W.kitOne K (.type "list") (.type "list")=some true)
  (y_lt:PySem.W.kitOne K (.type "list") (.type "tuple")=some false)
  (y_tb:PySem.W.kitOne K (.type "tuple") (.type "bool")=some false)
  (y_ti:PySem.W.kitOne K (.type "tuple") (.type "int")=some false)
  (y_tl:PySem.W.kitOne K (.type "tuple") (.type "list")=some false)
  (y_tt:PySem.W.kitOne K (.type "tuple") (.type "tuple")=some true)
  (y_db:PySem.W.kitOne K (.type "dict") (.type "bool")=some false)
  (y_di:PySem.W.kitOne K (.type "dict") (.type "int")=some false)
  (y_dl:PySem.W.kitOne K (.type "dict") (.type "list")=some false)
  (y_dt:PySem.W.kitOne K (.type "dict") (.type "tuple")=some false) :
  ∃ (fd:FuncData) (tabs:List (Addr×Str)),(∀ (s:Shared) (v:Value),BindsTo s fd ⟨[v],[]⟩ [("_law_script",v)])/\(∀ p∈tabs,p.1∈([dj]:La0)/\K.lookup p.1=none/\∃ c,PySem.W.CodeHd h c p.1)/\∀ base:Heap,K.In base->base.Ns mainGlobals mg->(∀ P q,tabs.lookup P=some q->nU base P q)->aG l.prog w K mg base CX0 11 fa fd ["_law_script"] (wU K):=by
 have e:=hfa.symm.trans (PySem.W.mg_of X G F68.n);cases e;obtain⟨oc,od,kV,dc,pm,an,cd,ct,sl,rfl,lk,hc⟩:=F68.F.ex;have T:Txt K mg ⟨a_,bL,aI,aL,aT,aK,aW,bz,f0,d0,f1,d1,f2,d2,f3,d3,f4,d4,f5,d5,f6,d6,f7,d7,f8,d8,f9,d9,f10,d10,f11,d11,f12,d12,f13,d13,f14,d14,f15,d15,f16,d16,f17,d17,f18,d18,f19,d19,f20,d20,f21,d21,f22,d22,f23,d23,f24,d24,f25,d25,f26,d26,f27,d27,f28,d28,f29,d29,f30,d30,f31,d31,f32,d32,f33,d33,f34,d34,f35,d35,f36,d36,f37,d37,f38,d38,f39,d39,f40,d40,f41,d41,f42,d42,f43,d43,f44,d44,f45,d45,f46,d46,f47,d47,f48,d48,f49,d49,f50,d50,f51,d51,f52,d52,f53,PySem.W.fnOf "halved" "halved" (gi cK) (c7 cK) (ae cK) .none kV53 dc53 pm53 an53 (.ref ey) ct53,f54,d54,f55,d55,f56,d56,f57,d57,f58,d58,f59,d59,f60,d60,f61,d61,f62,d62,f63,d63,f64,d64,f65,d65,f66,d66,f67,d67,fa,_,ey,dj⟩:=⟨⟨pg_Field,hd_Field,po_Field,sa_Field⟩,
  PySem.W.mg_of X G aC_Field,
  ⟨pg_Guessed,hd_Guessed,po_Guessed,sa_Guessed⟩,
  PySem.W.mg_of X G aC_Guessed,
  ⟨mk_Guessed,in_Guessed,kc_Guessed⟩,
  ⟨pg_Halves,hd_Halves,po_Halves,sa_Halves⟩,
  PySem.W.mg_of X G aC_Halves,
  ⟨mk_Halves,in_Halves,kc_Halves⟩,
  ⟨pg_Leaning,hd_Leaning,po_Leaning,sa_Leaning⟩,
  PySem.W.mg_of X G aC_Leaning,
  ⟨mk_Leaning,in_Leaning,kc_Leaning⟩,
  ⟨pg_Plan,hd_Plan,po_Plan,sa_Plan⟩,
  PySem.W.mg_of X G aC_Plan,
  ⟨pg_Sums,hd_Sums,po_Sums,sa_Sums⟩,
  PySem.W.mg_of X G aC_Sums,
  ⟨mk_Sums,in_Sums,kc_Sums⟩,
  n_Field_grid,
  n_Plan_chosen,
  n_Plan_corners,
  n_Plan_letters,
  ⟨PySem.W.mg_of X G q_ALONG_PILLARS,fun F=>.inr ⟨_,_,_,lk_ALONG_PILLARS,rfl,rfl,z2,.cons ⟨_,rfl⟩ (.cons ⟨_,rfl⟩ (.nil))⟩⟩,
  ⟨PySem.W.mg_of X G q_ALONG_ROWS,fun F=>.inr ⟨_,_,_,lk_ALONG_ROWS,rfl,rfl,z2,.cons ⟨_,rfl⟩ (.cons ⟨_,rfl⟩ (.nil))⟩⟩,
  ⟨y_bs,y_is,y_ns,y_ss,y_ls,y_ts,y_ds⟩,
  fx X G F0 (by walk_at "bn"),
  fx X G F1 (by walk_at "bn"),
  fx X G F2 (by walk_at "bn"),
  fx X G F3 (by walk_at "bn"),
  fx X G F4 (by walk_at "bn"),
  fx X G F5 (by walk_at "bn"),
  fy F6 (by walk_at "bn"),
  fy F7 (by walk_at "bn"),
  fy F8 (by walk_at "bn"),
  fy F9 (by walk_at "bn"),
  fy F10 (by walk_at "bn"),
  fy F11 (by walk_at "bn"),
  fy F12 (by walk_at "bn"),
  fx X G F13 (by walk_at "bn"),
  fx X G F14 (by walk_at "bn"),
  fx X G F15 (by walk_at "bn"),
  fx X G F16 (by walk_at "bn"),
  fx X G F17 (by walk_at "bn"),
  fx X G F18 (by walk_at "bn"),
  fx X G F19 (by walk_at "bn"),
  fy F20 (by walk_at "bn"),
  fy F21 (by walk_at "bn"),
  fy F22 (by walk_at "bn"),
  fy F23 (by walk_at "bn"),
  fy F24 (by walk_at "bn"),
  fy F25 (by walk_at "bn"),
  fy F26 (by walk_at "bn"),
  fy F27 (by walk_at "bn"),
  fy F28 (by walk_at "bn"),
  fx X G F29 (by walk_at "bn"),
  fx X G F30 (by walk_at "bn"),
  fx X G F31 (by walk_at "bn"),
  fx X G F32 (by walk_at "bn"),
  fy F33 (by walk_at "bn"),
  fy F34 (by walk_at "bn"),
  fy F35 (by walk_at "bn"),
  fy F36 (by walk_at "bn"),
  fx X G F37 (by walk_at "bn"),
  fx X G F38 (by walk_at "bn"),
  fx X G F39 (by walk_at "bn"),
  fx X G F40 (by walk_at "bn"),
  fy F41 (by walk_at "bn"),
  fy F42 (by walk_at "bn"),
  fy F43 (by walk_at "bn"),
  fy F44 (by walk_at "bn"),
  fy F45 (by walk_at "bn"),
  fy F46 (by walk_at "bn"),
  fy F47 (by walk_at "bn"),
  fx X G F48 (by walk_at "bn"),
  fx X G F49 (by walk_at "bn"),
  fx X G F50 (by walk_at "bn"),
  fx X G F51 (by walk_at "bn"),
  fx X G F52 (by walk_at "bn"),
  ⟨(xZ (st:=cK) l53 c53 k53),(xZ (st:=cK) l53 c53 k53).binds (by walk_at "bn"),PySem.W.mg_of X G a53⟩,
  rfl,
  k_hd_halved,
  fx X G F54 (by walk_at "bn"),
  fx X G F55 (by walk_at "bn"),
  fx X G F56 (by walk_at "bn"),
  fx X G F57 (by walk_at "bn"),
  fx X G F58 (by walk_at "bn"),
  fx X G F59 (by walk_at "bn"),
  fx X G F60 (by walk_at "bn"),
  fx X G F61 (by walk_at "bn"),
  fx X G F62 (by walk_at "bn"),
  fx X G F63 (by walk_at "bn"),
  fx X G F64 (by walk_at "bn"),
  fx X G F65 (by walk_at "bn"),
  fx X G F66 (by walk_at "bn"),
  fx X G F67 (by walk_at "bn"),
  fx X G F68 (by walk_at "bn"),
  ⟨mk_Field,F6.m,F6.i,kc_Field⟩,
  ⟨mk_Plan,F41.m,F41.i,kc_Plan⟩,
  F7.me,
  F8.me,
  F9.me,
  F10.me,
  F11.me,
  F12.me,
  F33.me,
  F34.me,
  F21.me,
  F23.me,
  F24.me,
  F25.me,
  F26.me,
  F27.me,
  F28.me,
  ⟨e_Halves_halves,F21.i,F21.F.kp⟩,
  F22.me,
  ⟨e_Halves_sums_of,F23.i,F23.F.kp⟩,
  F35.me,
  F36.me,
  ⟨e_Leaning_sum_of_pair,F27.i,F27.F.kp⟩,
  ⟨e_Leaning_sum_of_lone,F28.i,F28.F.kp⟩,
  ⟨e_Leaning_halves,F21.i,F21.F.kp⟩,
  ⟨e_Leaning_sums_of,F23.i,F23.F.kp⟩,
  F42.me,
  F43.me,
  F44.me,
  F45.me,
  F46.me,
  F47.me,
  F20.me,
  ⟨e_Sums_halves,F21.i,F21.F.kp⟩,
  ⟨e_Sums_parted,F22.i,F22.F.kp⟩,
  ⟨e_Sums_sums_of,F23.i,F23.F.kp⟩,
  ⟨e_Sums_sum_of_pair,F24.i,F24.F.kp⟩,
  ⟨e_Sums_sum_of_lone,F25.i,F25.F.kp⟩,
  ⟨_,PySem.W.mg_of X G q_MOST_NUMBER⟩,
  ⟨_,PySem.W.mg_of X G q_MOST_PLACES⟩,
  ⟨_,PySem.W.mg_of X G q_MOST_SIDE⟩,
  ⟨_,PySem.W.mg_of X G q_MOST_VALUE⟩,
  ⟨⟨pg_Field,hd_Field,po_Field,sa_Field⟩,oc_Field,og_Field,ot_Field,ob_Field,y_oo_Field,y_ob_Field,y_oi_Field,y_on_Field,y_os_Field,y_ol_Field,y_ot_Field,y_od_Field⟩,
  PySem.W.mg_none_of X G z_all,
  PySem.W.mg_none_of X G z_bool,
  PySem.W.mg_none_of X G z_enumerate,
  PySem.W.mg_none_of X G z_int,
  PySem.W.mg_none_of X G z_isinstance,
  PySem.W.mg_none_of X G z_len,
  PySem.W.mg_none_of X G z_list,
  PySem.W.mg_none_of X G z_max,
  PySem.W.mg_none_of X G z_min,
  PySem.W.mg_none_of X G z_range,
  PySem.W.mg_none_of X G z_repr,
  PySem.W.mg_none_of X G z_str,
  PySem.W.mg_none_of X G z_tuple,
  PySem.W.mg_none_of X G z_zip,
  ⟨y_bb,y_bi,y_bl,y_bt,y_ib,y_ii,y_il,y_it,y_nb,y_ni,y_nl,y_nt,y_sb,y_si,y_sl,y_st,y_lb,y_li,y_ll,y_lt,y_tb,y_ti,y_tl,y_tt,y_db,y_di,y_dl,y_dt⟩⟩
 exact⟨_,[(dj,Str.ofString "halved.<locals>.<lambda>")],fun s v=>.of_eq rfl,fun p hp=>(by cases hp with | head=>exact⟨.head _,k_kp_halved,_,PySem.W.codeHd_of_K X k_hd_halved⟩ | tail _ z=>nomatch z),fun base _ _ hM=>KP T (hM _ _ (by rw[List.lookup_cons,beq_self_eq_true]))⟩
theorem walk {l:PySem.W.OpenLaw} {q:Program} {loose:Ls0} {XP:(SV)->Heap->Prop} {YP:World->Heap->Prop} {d:DefRec} {K:Params->Fg0} {ts:La0} (hn:l.most=some 63) (hdf:d.params.defaults=[])
  (hY:∀ (w:World) (h:Heap),YP w h->(K w.params).In h/\∀ P∈ts,h.get? P=some (PySem.W.tabObj #[]))
  (F:∀ (w:World) (mg:SV) (fa:Addr) (h:Heap),(K w.params).In h->h.Ns mainGlobals mg->mg d.name=some (.ref fa)->
   ∃ (fd:FuncData) (tabs:List (Addr×Str)),(∀ (s:Shared) (u:Value),BindsTo s fd ⟨[u],[]⟩ [("_law_script",u)])/\(∀ p∈tabs,p.1∈ts/\(K w.params).lookup p.1=none/\∃ c,PySem.W.CodeHd h c p.1)/\
    ∀ base:Heap,(K w.params).In base->base.Ns mainGlobals mg->(∀ P q,tabs.lookup P=some q->nU base P q)->aG l.prog w (K w.params) mg base CX0 11 fa fd ["_law_script"] (wU (K w.params))) :
  PySem.W.WalkO q loose XP YP l.row.toRowW d [] (fun f vs=>PySem.call f vs):=
 L2.DQ (n:=63) (k:=11) (x:="_law_script") (CX:=fun _=>CX0) (sp:=wU) hn (by decide) hdf ⟨rfl,by decide,by decide,rfl⟩ hY F (fun _ _ a ns hl _ hS=>⟨a,ns,rfl,hS,hl,fun _=>rfl⟩) fun _ _ _ _ _ z=>z
end
end K23
set_option bootstrap.genMatcherCode true in
local macro_rules | `(tactic| walk_at "fk")=>`(tactic| first | (refine' L2.FN.mk ?k1 ?k2;(case k1=>k_is);(case k2=>refine' L2.xZ ?k3 ?k4 ?k5;(case k3=>k_is);(case k4=>k_is);(case k5=>k_is))) | (refine' L2.FM.mk ?k1 ?k6 ?k2;(case k1=>k_is);(case k6=>k_is);(case k2=>refine' L2.xZ ?k3 ?k4 ?k5;(case k3=>k_is);(case k4=>k_is);(case k5=>k_is))))
set_option genInjectivity false in
set_option genSizeOf false in
structure PySem.W.Fast:Prop where
 (tw8426915876824272340 tw8097236768012627129 tw16294128094050634691 tw13204441918893494148 tw2242818983971657800 tw10192839871472509857 tw9337070292721070237 tw8693563204637425036 tw3688041718293789228 tw13729447940397196605 tw12213586521262057991 tw5683271680524786336 tw17848373549614598748 tw17439990276686845426 tw3081986633068689093 tw4367379027279293856 tw485734499899528710 tw17616798425564950611 tw16615758589475386522 tw12606165048735034618 tw7975482094407809055 tw14214342811055948773 tw2356214034534007798 tw4340595377041108009 tw13864397480109187199 tw5260936970704944396 tw7773476532423144306 tw6070695271722096448 tw15186565541915010055 tw3827584067537565659 tw3837212394778836115 tw7663201957738754468 tw11816160801757704703 tw9724582066399744646 tw7206268440073104386 tw3204320739111943278 tw3375827626148695887 tw4979593363511761664 tw11843992459403102196 tw3141989972425121073 tw16356773453803987091 tw3908188462761303386 tw77374327858561107 tw8137097813471135555 tw9262647921430998392 tw1317668579432943020 tw8566922752689543119 tw12303811542969182100 tw14756154366091718810 tw8977292592351019072 tw12180004624526214403 tw1944309309093094037 tw1296232228915621814 tw1155073455186797021 tw6345758187807223423 tw14821186224310099427 tw16587626484200193906 tw3081268232046722257 tw3101465571781545881 tw13665723611580726401 tw17013518085995947056 tw7349034461495202100 tw14841680424497760233 tw10765887726168500741 tw16988415384086300438 tw3112598732250903077 tw14453916738372894950 tw16365701702977905088 tw7679954489241217558 tw9836043546519714518 tw18037021615899153004 tw8520490952859757081 tw7668878004504621825 tw12161483225505207402 tw8439488607568201859 tw6160849067948952701 tw4157105583266543674 tw5317535840509195084 tw11544616309489944449 tw12812635579929385038 tw9735581925199802052 tw3575818748230599487 tw8890500218499690860 tw14695613550837329221 tw11621122779171864054 tw16319963648933896903 tw9200089896164745594 tw7789934118252665543 tw15573606658229267709 tw2226648757312026573 tw10450810501103139740 tw17883073064426570641 tw18330116717659432554 tw17239661149962957966 tw9012915087370687842 tw9182293593159771956 tw11136272820677878618 tw1205755007460524702 tw5911250534942506239 tw6797793431860029906 tw8747231712241773716 tw16028315505160088915 tw9552160281417978146 tw6772664803712664588 tw13850715605603773006 tw2830803205981302962 tw2924238945887072244 tw3641907023014464253 tw11968597383562746148 tw16810555798637723925 tw3500231686109143539 tw2486167138069858520 tw3444838610143779949 tw9812555149895231091 tw12905703106959359384 tw13502482395023067150 tw7901246801462228996 tw18321577910884760586 tw12969927245072648996 tw3113208268791418573 tw16860640255730004554 tw11397881331421646718 tw2240263847557463841 tw1348604558000299052 tw6930409345601798135 tw8369111041842960620 tw11496558595814603249 tw17089502682592110680 tw7715260347724874756 tw18388758909666836823 tw17130610481459780224 tw15950592908630208008 tw14174784421792192091 tw10812981862859629304 tw11653570240313118328 tw11662007794174847613 tw10804579541665138665 tw7722873821731789057 tw16302406106782005718 tw14111876035357331061 tw14505846914439508733 tw7749573547298155923 tw2631955850514961164 tw16118383219827385375 tw8682846721706509215 tw4698638267847144418 tw5846931661756162138 tw3195306933743234997 tw11752008368467790280 tw12893124275749503676 tw513697762937315326 tw7823178694740085570 tw17328611606161512995 tw500838846498862406 tw10857195897377018371 tw5210098972016121596 tw18325986329653378341 tw7057794852158931821 tw4323104144544411832 tw349396349816643141 tw14858562378607750988 tw16100370342192889016 tw13776623278334482574 tw2182354607564721528 tw1786901944138824691 tw2299861175505072226 tw5178461427163024819 tw7297660185352629381 tw11984426735551992089 tw1787978217220049182 tw13331351101206465508 tw8256464902265941132 tw7210812757951225217 tw15934660219169652961 tw9546755694222955969 tw8162236005560582594 tw11049570714121602906 tw2527035524032305131 tw53085652046846742 tw15924160645828720968 tw17300512646350755763 tw18116662868158395069 tw8564510070952720887 tw772103017407972839 tw10552393158884235768 tw9446689358892336223 tw12735377743272208635 tw14666099572178793505 tw1699935540120414613 tw9373086049521482742 tw16186956998660062556 tw6846300041367768742 tw11849169790419662055 tw7060206587422027619 tw12118933544131559427 tw11138186342892989131 tw17655428056985926724 tw18031158924344480525 tw2024268341805198002 tw12490560691551685440 tw12437617297725115 tw8612544088861684392 tw2785592012351999533 tw8174396377486297240 tw7592749221479377516 tw2151160306709984662 tw18218166043993455372 tw138736819065800588 tw10634870307770880157 tw282916638625306535 tw5337924442355539731 tw15809593103361466838 tw7181999278893637207 tw11102114753998599020 tw4165976450829924756 tw12042603433062419073 tw7549926961863877863 tw667343225652248618 tw14687300700729217095 tw6061230199284572090 tw9209913466049155519 tw14630393721951550754 tw5986546282707024236 tw13498139978539570182 tw872017755765485934 tw2831425559329700244 tw1685281507379375914 tw3458278095812739521 tw14134481056558480204 tw16940671104747661894 tw1010473235867185025 tw15869984041130397397 tw14130225557048694317 tw2347023955944337178 tw16349938465609959254 tw9454844949523434473 tw13091272869562359806 tw10748253156177397145 tw3894175466148915225 tw7675005252337525219 tw1335306379679399283 tw4770491025678608458 tw2930172804846917794 tw7453026037871435267 tw3083399600683331682 tw1985866106615027450 tw5346608152207652 tw10818659231363806471 tw2566583213878563346 tw9825204500451072339 tw724830306231413864 tw15967835878970176233 tw3851856468316841264 tw14948124959215433279 tw1249704451565183523 tw7210963146456960116 tw7211088179972049508 tw17570780035993356904 tw7103243876733001384 tw15626165931772585319 tw3375758451986919361 tw15036708539468521717 tw10684328013823061596 tw4156001394771165307 tw16180121224786075643 tw2303424729665328012 tw2469660213557657392 tw11152734117844329817 tw10042195579097003192 tw2368116142914551435 tw18257108785317673503 tw14050432659501864760 tw3273243519375585424 tw15412941363566480143 tw16998320912254103108 tw5668328111624057598 tw15601352200348191929 tw9218104851584538754 tw14020206480442354018 tw14514589737646721786 tw12463595252278606967 tw10672879059400300091 tw10590350692003331506 tw15496284204106464049 tw6423519925968766019 tw16614262257011247678 tw7650409435240954482 tw4403530247606700079 tw5132158141580838147 tw3066221202197657408 tw16932646451621373238 tw3860661641223156160 tw8155215355036294297 tw11225549625224428953 tw10375852747849130772 tw9999522684640975045 tw2149170217103474336 tw6207911137094708197 tw4469288644630211914 tw3409743183828614772 tw11608219567965919040 tw6536114935203926917 tw8131594062763272452 tw11768863227685991636 tw18110846421430082151 tw10171171252809314065 tw13675519919994413941 tw2438503762518550517 tw2384524027455245719 tw87959735945206502 tw13966600676028902055 tw3590873376708518918 tw2183214070872547918 tw18437546865472212435 tw11264073269193408155 tw4607728692948996488 tw5763728808118377223 tw18135193379501411709 tw835243532219788796 tw16468306562112052308 tw10767748992770556373 tw8526545456567728373 tw15257441614702202741 tw17807910062029274261 tw13418281958945099014 tw18194356732908038880 tw1538921301172632621 tw7666756348515496405 tw16166103890347493549 tw284814518208516385 tw4879416253872861086 tw17860447948426477169 tw13029216129820337615 tw10849749581023377773 tw6504815348219065067 tw3458522754516577439 tw9617430737404939411 tw14572699588038101792 tw3563328527853973303 tw7817619308084276111 tw8829226380829093876 tw3754963438078618467 tw9593243285226226081 tw6337369801872578914 tw1711394867079595331 tw14154363592038082619 tw16040322238554198934 tw15600420723308767189 tw7470087744068707042 tw5478134927480910712 tw8050158424860937191 tw12093037208903889681 tw5284933717021491781 tw1722428203418364702 tw9177864052404025661 tw14846085741081304461 tw16808203598416633072 tw12695073042459297135 tw14200870409218395059 tw6748834105409738404 tw4952884183865526688 tw10386127797479763934 tw4794947304054260039 tw9255705032984850656 tw3389971448201477686 tw3708646864312637620 tw5872521431215403422 tw13896572551150205193 tw7175265761994964728 tw3144281888476137870 tw18113131762409228667 tw15488222924096342563 tw9216036031647940317 tw14878036628925326276 tw18147768912391349257 tw11712070778889502783 tw9900802709930526628 tw6114501482069030628 tw15458939878822689484 tw6604555240035618044 tw6882748973632306594 tw217508997193897005 tw3092971035941502012 tw9069063644606179868 tw6745062395130601701 tw18286381999302742284 tw16016005494258871291 tw17269486203511470569 tw14680873814219123860 tw16096982713781934917 tw11926969787090852834 tw1694780756817099085 tw776283015657405398 tw15699824008895856675 tw1545768100884194798 tw11349526625297862946 tw12277979097235430878 tw1274503249985722944 tw16333301297023806906 tw5962469384631897296 tw7598428621863351835 tw7743467325338686574 tw13425816057119557577 tw12507996153209949137 tw15537750479365840709 tw11060946424472432033 tw15849825851996888625 tw3489405644796855660 tw3692205071090291606 tw5837417076231693464 tw9628255546302541113 tw13821623484444062138 tw15925562414487278322 tw12005827793943193375 tw9540631272227334843 tw4810004765087759013 tw4619083862572767904 tw10930330804872106273 tw4694704752732684219 tw12503157560533942416 tw16284374841380360258 tw1188093667747138251 tw17706947763850530654 tw5977848848752129424 tw1670447331546003691 tw888980372044577817 tw8337385041576305360 tw9708673819152596364 tw13311742564734542686 tw3888379002301712095 tw12975074468073158541 tw4229386358406207532 tw5342129686074132995 tw10058121010909081792 tw7203813615727200285 tw4681705658956721446 tw17636996409373184115 tw2585481433955433869 tw12944152955653979292 tw14967480097800234559 tw16417126732681241833 tw14008318847076555052 tw16309361950784450796 tw3892728404016692253 tw15544027760116560845 tw6691934709406335689 tw3722622594171368322 tw12889683316753529095 tw13218446286578322101 tw18380862036611757328 tw6965968015345695152 tw3504557822367339786 tw5954225511739150009 tw5456719134846217081 tw408838924270669275 tw599570018435322961 tw7216235240645445635 tw2046682584435708619 tw4796222110640813854 tw11754783503531018902 tw12040776041961043711 tw355101153301135168 tw6707336188423454544 tw14254200392934867561 tw9984253632165487401 tw18352754430198932096 tw855721359770972938 tw8248411458702323053 tw4435348090054247192 tw11773478932978479903 tw8356780327446089622 tw13770204427604293936 tw12073121437122247346 tw4123044619732280946 tw9892075037703064275 tw4112611558717618217 tw5413499611632060277 tw3407702553722228974 tw16589389643863828517 tw16659121065179825010 tw282364101839416018 tw7294627496707504402 tw12804772310018559842 tw5845105164070428222 tw1846371191592450143 tw17423083527406754795 tw3312785867145916212 tw22797939151190539 tw6633024280544054436 tw17959299611986095855 tw3727315750121984923 tw16505468678434945851 tw17952349755912177611 tw7786237963487406652 tw2732445932562825156 tw2109342451399071835 tw3711620604201594683 tw8172840369983093074 tw758219035182692894 tw3293792305363234367 tw7679551498259460889 tw1782177913293280557 tw11852435595470917385 tw16155676682645625668 tw16917944521460112148 tw14216438208518374296 tw2238187980817534644 tw18417920686478788645 tw11743996767694134650 tw15524306453806826797 tw3691959966370514916 tw17546544541673709081 tw16784945604439048733 tw605282124254837951 tw10702744399382567823 tw7754295799781830090 tw11552319774070337916 tw7820453322450938876 tw12124256774924918012 tw5034419088109183628 tw18018428213958350882 tw16598561001648994056 tw17580516794467905627 tw6834074837079907754 tw11230692007613494963 tw12944867830227201441 tw2803479673412563842 tw12674375021873681835 tw2061377775106050533 tw10040658675269484786 tw2003814896118289345 tw3756772762659259311 tw10843384600095284626 tw7853929507922685185 tw5534221828099810519 tw5528880251540076419 tw6690377601997244198 tw144758050024383585 tw16408619259002786615 tw9369283295301281750 tw3669865140092073539 tw1985183558081730327 tw6084688386019426258 tw11209862214341705102 tw8866720567730304065 tw13848895138941776497 tw4483186687220043511 tw5808413660916011639 tw7533899364931627454 tw13773380525211292100 tw2607365912343803057 tw16414759984031155489 tw11349885885206043026 tw720049085981434317 tw3689047895795761519 tw8524660464896186995 tw634292392907522805 tw18369695376689911747 tw7357883652048238548 tw9238534370606255475 tw9963800024044461186 tw10375868347111481409 tw2065840204772953170 tw11298887477422406787 tw3668766850867285333 tw16926025283456796226 tw14975844265074542013 tw9363070384337640119 tw4971371908031182860 tw15112660722607107703 tw10519404136975211684 tw13171886884996350328 tw16630258992641982150 tw985745833131100699 tw14119772657003362514 tw1242067363775037309 tw3289651678719627991 tw15914809368272146168 tw11461332074573803832 tw18138012407097536315 tw2727027253306881201 tw8946816999436135344 tw15854107575005762231 tw366472128728644037 tw3306501206588228268 tw16203364676263606248 tw2257245198084562951 tw6175275994088786465 tw12350042238781831881 tw488618708654965280 tw16972842092259721670 tw10824385848422691712 tw4910574997916091447 tw11014526757820312521 tw8147309633716060718 tw1929942938219651416 tw13859891856126820030 tw17914314317079209706 tw6799165565246042322 tw10047973565439279042 tw3677712545800680544 tw2689826809507570000 tw9519687317404053933 tw10223338140652881946 tw11432314678240624685 tw8373243481016111166 tw4730051135597333105 tw12234242241745191272 tw10485302002387824793 tw2491853361826628223 tw6655261741500169227 tw13521211154086922569 tw13450205651853583061 tw9821939110913622521 tw14639294653079964901 tw10354977547731494526 tw3690663211306003148 tw2326547103854439249 tw6155670773556294698 tw10738416839388100684 tw13343977035222993073 tw310092838829910675 tw10163106590325179259 tw5645153958211424123 tw2624731708112447585 tw667250979615868844 tw7794580624954837650 tw15124013923001744938 tw18328678407095273404 tw7400598736982531052 tw404222745145759859 tw15867201866665921398 tw11302148153051950806 tw6679966376748904960 tw11433302239740240384 tw14041701078915401056 tw13612307580375045254 tw5419069290956889510 tw10281065333540763622 tw10583636053618654204 tw2531677100570691648 tw15882760554179525573 tw4003659007558368371 tw13161217692160673018 tw16504446013407331923 tw5526000632057774849 tw1486271325259284039 tw7395722668411954311 tw15295193482495839713 tw14393181692065966401 tw6395262111300600796 tw16480797026083774111 tw17800809714649147637 tw16775381733034457422 tw2863722706012653934 tw16087615932430265183 tw6073295607535590709 tw6178754537551378202 tw14286779948604167807 tw4198133210990558631 tw340865100402128863 tw14633155086679985244 tw4614034626667698934 tw3692572421290185814 tw16338464483984570938 tw9062969189891913927 tw15155608552938945287 tw192538036639562298 tw11053140370363261498 tw4308870129995653396 tw1371990139359057514 tw1312077325220073076 tw15248688230548421462 tw17258708676673497234 tw5143009677445770386 tw7495338248021625686 tw12241852075059836948 tw3323227421086439922 tw6720885238017897838 tw2175585861074259062 tw14185424419766097427 tw18017257930416231907 tw4473365692055526612 tw15937543701831254262 tw6525606090277921251 tw14037776777498337263 tw15985250359488569176 tw1269241118859869167 tw5707517848349641560 tw18291824583039465428 tw17311414373064231050 tw14711993035760258255 tw13394312272728994324 tw10699564538254262804 tw7890962397397660141 tw8931306013067424978 tw4519865410561317262 tw16453070493861163916 tw16639390257237658109 tw13344617641991013566 tw11225324582211727363 tw16710478726635520766 tw4914747222260179453 tw5365898526887720911 tw7344896266215463043 tw15351643983377299229 tw16308979819851289551 tw7789816361494131649 tw1322801130491931341 tw12432790466740666654 tw13549123524813870383 tw14125764500054526301 tw6603668529730699309 tw10744719741642673701 tw6707506954904147213 tw14430483575158941517 tw5192477625715903309 tw7823170995807816675 tw18003571859342358805 tw13933432768476138557 tw10757447900963804973 tw9485750139426669505 tw14764161850173736161 tw13990074146068687454 tw18132703260809393982 tw1339217863205672094 tw7360164182046339426 tw5233065671090757790 tw16102668936481928062 tw16522098692452539727 tw12638454818131992386 tw17420870924239126087 tw13873246289315687772 tw6512182225495479573 tw18014373168059380147 tw10724956556433726114 tw4152040791780043426 tw16785442791052317757 tw5574023260492502018 tw6511938726440238821 tw9675974440263467297 tw15895220276385918555 tw14953382988890193895 tw2305423367289559976 tw1412089175104473052:True)
open PySem PySem.W PyProof.Rows
set_option maxRecDepth 100000 in
set_option maxHeartbeats 0 in
theorem PySem.Challenge.cw_halvedpictures_k23_halved_step_by_step_holds : PySem.Challenge.rw_halvedpictures_k23_halved_step_by_step.Holds := by
 w_on;o_law;k_head;(case hw=>w_witness2)
 k_fill
 refine K23.walk (l:=PySem.Challenge.rw_halvedpictures_k23_halved_step_by_step) rfl rfl (fun w h Y=>⟨PySem.W.km_in_of Y,PySem.W.km_tabs_of Y⟩) ?F
 case F=>
  intro w mg fa h KX G hmg
  refine' K23.all_mk KX G hmg ?aC_Field ?pg_Field ?hd_Field ?po_Field ?sa_Field ?mk_Field ?kc_Field ?aC_Guessed ?pg_Guessed ?hd_Guessed ?po_Guessed ?sa_Guessed ?mk_Guessed ?kc_Guessed ?in_Guessed ?aC_Halves ?pg_Halves ?hd_Halves ?po_Halves ?sa_Halves ?mk_Halves ?kc_Halves ?in_Halves ?aC_Leaning ?pg_Leaning ?hd_Leaning ?po_Leaning ?sa_Leaning ?mk_Leaning ?kc_Leaning ?in_Leaning ?aC_Plan ?pg_Plan ?hd_Plan ?po_Plan ?sa_Plan ?mk_Plan ?kc_Plan ?aC_Sums ?pg_Sums ?hd_Sums ?po_Sums ?sa_Sums ?mk_Sums ?kc_Sums ?in_Sums ?n_Field_grid ?n_Plan_chosen ?n_Plan_corners ?n_Plan_letters ?q_ALONG_PILLARS ?lk_ALONG_PILLARS ?q_ALONG_ROWS ?lk_ALONG_ROWS ?y_bs ?y_is ?y_ns ?y_ss ?y_ls ?y_ts ?y_ds ?F0 ?F1 ?F2 ?F3 ?F4 ?F5 ?F6 ?F7 ?F8 ?F9 ?F10 ?F11 ?F12 ?F13 ?F14 ?F15 ?F16 ?F17 ?F18 ?F19 ?F20 ?F21 ?F22 ?F23 ?F24 ?F25 ?F26 ?F27 ?F28 ?F29 ?F30 ?F31 ?F32 ?F33 ?F34 ?F35 ?F36 ?F37 ?F38 ?F39 ?F40 ?F41 ?F42 ?F43 ?F44 ?F45 ?F46 ?F47 ?F48 ?F49 ?F50 ?F51 ?F52 ?a53 ?l53 ?c53 ?k53 ?k_hd_halved ?k_kp_halved ?F54 ?F55 ?F56 ?F57 ?F58 ?F59 ?F60 ?F61 ?F62 ?F63 ?F64 ?F65 ?F66 ?F67 ?F68 ?e_Halves_halves ?e_Halves_sums_of ?e_Leaning_sum_of_pair ?e_Leaning_sum_of_lone ?e_Leaning_halves ?e_Leaning_sums_of ?e_Sums_halves ?e_Sums_parted ?e_Sums_sums_of ?e_Sums_sum_of_pair ?e_Sums_sum_of_lone ?q_MOST_NUMBER ?q_MOST_PLACES ?q_MOST_SIDE ?q_MOST_VALUE ?oc_Field ?og_Field ?ot_Field ?ob_Field ?y_oo_Field ?y_ob_Field ?y_oi_Field ?y_on_Field ?y_os_Field ?y_ol_Field ?y_ot_Field ?y_od_Field ?z_all ?z_bool ?z_enumerate ?z_int ?z_isinstance ?z_len ?z_list ?z_max ?z_min ?z_range ?z_repr ?z_str ?z_tuple ?z_zip ?y_bb ?y_bi ?y_bl ?y_bt ?y_ib ?y_ii ?y_il ?y_it ?y_nb ?y_ni ?y_nl ?y_nt ?y_sb ?y_si ?y_sl ?y_st ?y_lb ?y_li ?y_ll ?y_lt ?y_tb ?y_ti ?y_tl ?y_tt ?y_db ?y_di ?y_dl ?y_dt
  (case aC_Field | pg_Field | hd_Field | po_Field | sa_Field | mk_Field | kc_Field | aC_Guessed | pg_Guessed | hd_Guessed | po_Guessed | sa_Guessed=>k_is)
  (case mk_Guessed | kc_Guessed | in_Guessed | aC_Halves | pg_Halves | hd_Halves | po_Halves | sa_Halves | mk_Halves | kc_Halves | in_Halves | aC_Leaning=>k_is)
  (case pg_Leaning | hd_Leaning | po_Leaning | sa_Leaning | mk_Leaning | kc_Leaning | in_Leaning | aC_Plan | pg_Plan | hd_Plan | po_Plan | sa_Plan=>k_is)
  (case mk_Plan | kc_Plan | aC_Sums | pg_Sums | hd_Sums | po_Sums | sa_Sums | mk_Sums | kc_Sums | in_Sums | n_Field_grid | n_Plan_chosen=>k_is)
  (case n_Plan_corners | n_Plan_letters | q_ALONG_PILLARS | lk_ALONG_PILLARS | q_ALONG_ROWS | lk_ALONG_ROWS=>k_is)
  (case y_bs | y_is | y_ns | y_ss | y_ls | y_ts | y_ds=>kit_is)
  (case F0 | F1 | F2 | F3 | F4 | F5 | F6 | F7 | F8 | F9 | F10 | F11=>walk_at "fk")
  (case F12 | F13 | F14 | F15 | F16 | F17 | F18 | F19 | F20 | F21 | F22 | F23=>walk_at "fk")
  (case F24 | F25 | F26 | F27 | F28 | F29 | F30 | F31 | F32 | F33 | F34 | F35=>walk_at "fk")
  (case F36 | F37 | F38 | F39 | F40 | F41 | F42 | F43 | F44 | F45 | F46 | F47=>walk_at "fk")
  (case F48 | F49 | F50 | F51 | F52=>walk_at "fk")
  (case a53 | l53 | c53 | k53=>k_is)
  (case k_hd_halved | k_kp_halved=>first | k_is | kernel_rfl)
  (case F54 | F55 | F56 | F57 | F58 | F59 | F60 | F61 | F62 | F63 | F64 | F65=>walk_at "fk")
  (case F66 | F67 | F68=>walk_at "fk")
  (case e_Halves_halves | e_Halves_sums_of | e_Leaning_sum_of_pair | e_Leaning_sum_of_lone | e_Leaning_halves | e_Leaning_sums_of | e_Sums_halves | e_Sums_parted | e_Sums_sums_of | e_Sums_sum_of_pair | e_Sums_sum_of_lone | q_MOST_NUMBER=>k_is)
  (case q_MOST_PLACES | q_MOST_SIDE | q_MOST_VALUE | oc_Field | og_Field | ot_Field | ob_Field=>k_is)
  (case y_oo_Field | y_ob_Field | y_oi_Field | y_on_Field | y_os_Field | y_ol_Field | y_ot_Field | y_od_Field=>kit_is)
  (case z_all | z_bool | z_enumerate | z_int | z_isinstance | z_len | z_list | z_max | z_min | z_range | z_repr | z_str=>k_is)
  (case z_tuple | z_zip=>k_is)
  (case y_bb | y_bi | y_bl | y_bt | y_ib | y_ii | y_il | y_it | y_nb | y_ni | y_nl | y_nt=>kit_is)
  (case y_sb | y_si | y_sl | y_st | y_lb | y_li | y_ll | y_lt | y_tb | y_ti | y_tl | y_tt=>kit_is)
  (case y_db | y_di | y_dl | y_dt=>kit_is)
