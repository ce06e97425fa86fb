import PyProof.Rows.All
import Wide.All
import OpenK.AllK
import Wide.FinOn
import Lean
import KE.KRevIter
import PyProof.EqAt
import PyProof.EqKinds
import PyProof.TupleCall
import KE.KPairComp
import PySem.Challenge.RW_halvedpictures_k21_plans_told
set_option Elab.async false
set_option linter.all false
set_option maxRecDepth 100000
namespace L2
open PySem PySem.Spec PyProof.Rows
abbrev Key:=Sum Int Str
def uV:Key→Value→Bool
 | .inl k,v=>Value.isInt k v
 | .inr x,v=>Value.isStrOf x v
def LF (w:World):Key→Int
 | .inl k=>hashInt k
 | .inr x=>hashStr w x
theorem dg:∀ {k:Key} {v:Value},uV k v=true→(∃ i t,k=Sum.inl i∧v=Value.int i t)∨(∃ x t,k=Sum.inr x∧v=Value.str x t)
 | .inl i,v,h=>by
  obtain⟨t,e⟩:=Value.isInt_shape (k:=i) (v:=v) h
  exact .inl ⟨i,t,rfl,e⟩
 | .inr x,v,h=>by
  obtain⟨t,e⟩:=Value.isStrOf_shape (x:=x) (v:=v) h
  exact .inr ⟨x,t,rfl,e⟩
theorem BW (i:Int) (t:Tok):uV (.inl i) (.int i t)=true:=by simp [uV,Value.isInt]
theorem BV (x:Str) (t:Tok):uV (.inr x) (.str x t)=true:=by simp [uV,Value.isStrOf]
theorem IX (a b:Int):decide ((Sum.inl a:Key)=Sum.inl b)=(a == b):=by
 by_cases e:a=b
 ·subst e;simp
 ·have h:¬ (Sum.inl a:Key)=Sum.inl b:=fun q=>e (Sum.inl.inj q)
  rw[decide_eq_false h]
  exact(beq_eq_false_iff_ne.mpr e).symm
theorem IU (a b:Str):decide ((Sum.inr a:Key)=Sum.inr b)=decide (a=b):=by
 by_cases e:a=b
 ·subst e;simp
 ·have h:¬ (Sum.inr a:Key)=Sum.inr b:=fun q=>e (Sum.inr.inj q)
  rw[decide_eq_false h,decide_eq_false e]
theorem IW (a:Int) (b:Str):decide ((Sum.inl a:Key)=Sum.inr b)=false:=decide_eq_false (fun q=>nomatch q)
theorem IV (a:Str) (b:Int):decide ((Sum.inr a:Key)=Sum.inl b)=false:=decide_eq_false (fun q=>nomatch q)
def dA (prog:Program) (w:World):PySem.KeyKind prog w Key where
 is:=uV
 hash:=LF w
 inj:=fun v a b ha hb=>by
  rcases dg ha with ⟨i,t,rfl,rfl⟩ | ⟨x,t,rfl,rfl⟩
  ·rcases dg hb with ⟨j,u,rfl,e⟩ | ⟨y,u,rfl,e⟩
   ·injection e with e1 _;rw[e1]
   ·exact nomatch e
  ·rcases dg hb with ⟨j,u,rfl,e⟩ | ⟨y,u,rfl,e⟩
   ·exact nomatch e
   ·injection e with e1 _;rw[e1]
 byValue:=fun k v h=>by
  rcases dg h with ⟨i,t,rfl,rfl⟩ | ⟨x,t,rfl,rfl⟩ <;> rfl
 pyHash:=fun hv h=>by
  rcases dg hv with ⟨i,t,rfl,rfl⟩ | ⟨x,t,rfl,rfl⟩
  ·exact wpAny_pyHash_int h
  ·exact wpAny_pyHash_str h
 eqBool:=fun hu hv h=>by
  rcases dg hu with ⟨i,t,rfl,rfl⟩ | ⟨x,t,rfl,rfl⟩
  ·rcases dg hv with ⟨j,u,rfl,rfl⟩ | ⟨y,u,rfl,rfl⟩
   ·rw[IX] at h;exact wpAny_eqBool_int h
   ·rw[IW] at h;exact SeqAt.EqAt.int_str i t y u _ _ _ _ h
  ·rcases dg hv with ⟨j,u,rfl,rfl⟩ | ⟨y,u,rfl,rfl⟩
   ·rw[IV] at h;exact SeqAt.EqAt.str_int x t j u _ _ _ _ h
   ·rw[IU] at h;exact wpAny_eqBool_str h
 «strs»:=fun k x t v h=>by
  rcases dg h with ⟨i,u,rfl,e⟩ | ⟨y,u,rfl,e⟩
  ·exact nomatch e
  ·injection e with e1 _
   subst e1
   cases v <;> rfl
theorem x6 (prog:Program) (w:World) (i:Int) (t:Tok):(dA prog w).is (.inl i) (.int i t)=true:=BW i t
theorem x5 (prog:Program) (w:World) (x:Str) (t:Tok):(dA prog w).is (.inr x) (.str x t)=true:=BV x t
end L2
namespace L2
open PySem PySem.Spec PyProof.Rows
inductive V where
 | non | bl (b:Bool) | int (i:Int) | str (x:Str) | byt (b:Array UInt8) | flt (b:UInt64) | ref (a:Addr) | ty (n:String)
 deriving DecidableEq
def RelV:V→Value→Prop
 | .non,u=>u=Value.none
 | .bl b,u=>u=Value.bool b
 | .int i,u=>∃ t,u=Value.int i t
 | .str x,u=>∃ t,u=Value.str x t
 | .byt b,u=>∃ t,u=Value.bytes b t
 | .flt b,u=>∃ t,u=Value.float b t
 | .ref a,u=>u=Value.ref a
 | .ty n,u=>u=Value.type n
abbrev Vals:List V→List Value→Prop:=Paired RelV
theorem Vals.length {xs:List V} {us:List Value} (r:Vals xs us):xs.length=us.length:=Paired.length r
theorem Vals.get:∀ {xs:List V} {us:List Value} {i:Nat} {x:V},Vals xs us→xs[i]?=some x→∃ u,us[i]?=some u∧RelV x u
 | _,_,_,_,.nil,e=>by simp at e
 | _,_,0,_,.cons r _,e=>by simp at e;subst e;exact⟨_,rfl,r⟩
 | _,_,i + 1,x,.cons _ t,e=>by
  obtain⟨u,h1,h2⟩:=Vals.get (i:=i) (x:=x) t (by simpa using e)
  exact⟨u,by simpa using h1,h2⟩
theorem Vals.set {x:V} {u:Value} (r:RelV x u):∀ {xs:List V} {us:List Value} (i:Nat),Vals xs us→Vals (xs.set i x) (us.set i u)
 | _,_,_,.nil=>.nil
 | _,_,0,.cons _ t=>.cons r t
 | _,_,i + 1,.cons q t=>.cons q (Vals.set r i t)
theorem Vals.append:∀ {xs ys:List V} {us ws:List Value},Vals xs us→Vals ys ws→Vals (xs++ys) (us++ws)
 | _,_,_,_,.nil,s=>s
 | _,_,_,_,.cons r t,s=>.cons r (Vals.append t s)
theorem Vals.take:∀ {xs:List V} {us:List Value} (n:Nat),Vals xs us→Vals (xs.take n) (us.take n)
 | _,_,0,_=>.nil
 | _,_,_ + 1,.nil=>.nil
 | _,_,n + 1,.cons r t=>.cons r (Vals.take n t)
theorem Vals.drop:∀ {xs:List V} {us:List Value} (n:Nat),Vals xs us→Vals (xs.drop n) (us.drop n)
 | _,_,0,r=>r
 | _,_,_ + 1,.nil=>.nil
 | _,_,n + 1,.cons _ t=>Vals.drop n t
theorem Vals.none_of:∀ {xs:List V} {us:List Value} {i:Nat},Vals xs us→xs[i]?=none→us[i]?=none:=fun {xs us i} r e=>by
 have h1:=r.length
 have h2:xs.length≤i:=List.getElem?_eq_none_iff.mp e
 exact List.getElem?_eq_none_iff.mpr (by omega)
def pE:Option V→Option Value→Prop
 | some v,some u=>RelV v u
 | none,none=>True
 | _,_=>False
def KV {κ:Type}:List (κ×V)→List (κ×Value)→Prop:=Paired fun (p:κ×V) (q:κ×Value)=>p.1=q.1∧RelV p.2 q.2
def kV:Key→V
 | .inl i=>.int i
 | .inr x=>.str x
inductive HO where
 | lst (xs:List V)
 | tup (xs:List V)
 | dK (kvs:List (Key×V)) | dT (kvs:List (List Key×V))
 | set (S:Int→Bool) (n:Nat)
 | ins (C dx:Addr) (fs:List (Str×V))
 | own (x:Addr)
 | xd (fs:List (Str×V))
 | met (f x:Addr)
 | rng (lo hi:Int)
 | frz (o:Obj) (u:HO)
 | tbl (ps:Array Value)
 | ext (φ:Heap→Prop)
abbrev Hp:=Addr→Option HO
def upd (H:Hp) (a:Addr) (o:HO):Hp:=fun b=>if b=a then some o else H b
theorem aN {H:Hp} {a:Addr} {o:HO}:upd H a o a=some o:=by unfold upd;rw[if_pos rfl]
theorem au {H:Hp} {a b:Addr} {o:HO} (h:b≠a):upd H a o b=H b:=by unfold upd;rw[if_neg h]
theorem bE {H:Hp} {a b:Addr} {o:HO} (h:H a=some o) (h':H b=none):a≠b:=by
 intro e;subst e;rw[h] at h';cases h'
section
variable (P:Program) (w:World)
def dH (H:Hp) (h:Heap) (a:Addr):HO→Prop
 | .lst xs=>xs.length≤sizeLine∧∃ (its:List Value) (n:Nat),Vals xs its∧h.get? a=some { cls:=.type "list",data:=.seq its.toArray n }
 | .tup xs=>xs.length≤sizeLine∧∃ its:List Value,Vals xs its∧IsTup h a its.toArray
 | .dK kvs=>kvs.length≤sizeLine∧(a == sysModules)=false∧∃ vs,KV kvs vs∧h.DictOf (dA P w) a vs
 | .dT kvs=>kvs.length≤sizeLine∧(a == sysModules)=false∧∃ xs:List (List Key×Addr×Value),
   Paired (fun (p:List Key×V) (q:List Key×Addr×Value)=>p.1=q.1∧H q.2.1=some (.tup (p.1.map kV))∧RelV p.2 q.2.2) kvs xs∧
   ∃ o es ep,h.get? a=some o∧o.ExactDict∧o.data=.dict es ep∧es.toList=xs.map (entryOfKey (tupleKind (dA P w)))∧(xs.map (·.1)).Nodup
 | .set S n=>h.SetOf (intKind P w) a S n
 | .ins C dx fs=>H dx=some (.own a)∧fs.length≤1000∧dx≠a∧h.get? a=some (PySem.W.instObj C dx)∧
   ∃ mA,h.Ns1 dx mA∧(∀ f,pE (fs.lookup f) (mA f))∧PySem.Within mA (fs.map (·.1))
 | .own _=>∃ o,h.get? a=some o
 | .xd fs=>∃ mA,h.Ns1 a mA∧∀ f,pE (fs.lookup f) (mA f)
 | .rng lo hi=>∃ t u v,h.get? a=some { cls:=.type "range",data:=.fields #[.int lo t,.int hi u,.int 1 v] }
 | .frz o u=>h.get? a=some o∧dH H h a u
 | .tbl ps=>h.get? a=some { cls:=.none,data:=.fields ps }
 | .met f x=>h.get? a=some (PySem.W.methodObj (.ref f) (.ref x))
 | .ext φ=>φ h∧(∃ o,h.get? a=some o)∧∀ h1 h2:Heap,φ h1→(∀ o,h1.get? a=some o→h2.get? a=some o)→φ h2
def HOk (H:Hp) (h:Heap):Prop:=∀ a o,H a=some o→dH P w H h a o
end
section
variable {P:Program} {w:World} {H H':Hp} {h h':Heap} {a:Addr} {o:HO}
theorem dH.lt (x:dH P w H h a o):a < h.objs.size:=by
 cases o with
 | lst xs=>obtain⟨_,_,_,_,e⟩:=x;exact Heap.lt_size e
 | tup xs=>obtain⟨_,_,_,p⟩:=x;exact p.lt
 | dK kvs=>obtain⟨_,_,_,_,o,_,_,e,_⟩:=x;exact Heap.lt_size e
 | dT kvs=>obtain⟨_,_,_,_,o,_,_,e,_⟩:=x;exact Heap.lt_size e
 | set S n=>obtain⟨o,_,_,_,e,_⟩:=x;exact Heap.lt_size e
 | ins C dx fs=>obtain⟨_,_,_,e,_⟩:=x;exact Heap.lt_size e
 | own y=>obtain⟨_,e⟩:=x;exact Heap.lt_size e
 | xd fs=>obtain⟨_,⟨_,_,_,e,_⟩,_⟩:=x;exact Heap.lt_size e
 | rng lo hi=>obtain⟨_,_,_,e⟩:=x;exact Heap.lt_size e
 | frz ob u=>obtain⟨e,_⟩:=x;exact Heap.lt_size e
 | tbl ps=>exact Heap.lt_size (show h.get? a=some _ from x)
 | met f y=>exact Heap.lt_size (show h.get? a=some _ from x)
 | ext φ=>obtain⟨_,⟨_,e⟩,_⟩:=x;exact Heap.lt_size e
theorem Paired.Ks {α β:Type} {F G:α→β→Prop}:∀ {l₁:List α} {l₂:List β},Paired F l₁ l₂→(∀ a b,F a b→G a b)→Paired G l₁ l₂
 | _,_,.nil,_=>.nil
 | _,_,.cons r t,f=>.cons (f _ _ r) (Paired.Ks t f)
theorem dH.t7 (x:dH P w H h a o) (k:∀ b u,(b=a∨H b=some (.own a))→h.get? b=some u→h'.get? b=some u)
  (ho:∀ b,H b=some (.own a)→H' b=some (.own a)) (ht:∀ b xs,H b=some (.tup xs)→H' b=some (.tup xs)):dH P w H' h' a o:=by
 induction o with
 | lst xs=>obtain⟨z,its,n,r,e⟩:=x;exact⟨z,its,n,r,k _ _ (.inl rfl) e⟩
 | tup xs=>obtain⟨z,its,r,ob,e,c⟩:=x;exact⟨z,its,r,ob,k _ _ (.inl rfl) e,c⟩
 | dK kvs=>obtain⟨z,y,vs,r,ob,es,ep,e,c⟩:=x;exact⟨z,y,vs,r,ob,es,ep,k _ _ (.inl rfl) e,c⟩
 | dT kvs=>
  obtain⟨z,y,xs,r,ob,es,ep,e,c⟩:=x
  exact⟨z,y,xs,Paired.Ks r fun p q z=>⟨z.1,ht _ _ z.2.1,z.2.2⟩,ob,es,ep,k _ _ (.inl rfl) e,c⟩
 | set S n=>obtain⟨ob,es,ep,t,e,c⟩:=x;exact⟨ob,es,ep,t,k _ _ (.inl rfl) e,c⟩
 | ins C dx fs=>
  obtain⟨d,z,ne,e,mA,⟨od,es,ep,e2,c⟩,r⟩:=x
  exact⟨ho _ d,z,ne,k _ _ (.inl rfl) e,mA,⟨od,es,ep,k _ _ (.inr d) e2,c⟩,r⟩
 | own y=>obtain⟨ob,e⟩:=x;exact⟨ob,k _ _ (.inl rfl) e⟩
 | xd fs=>obtain⟨mA,⟨od,es,ep,e,c⟩,r⟩:=x;exact⟨mA,⟨od,es,ep,k _ _ (.inl rfl) e,c⟩,r⟩
 | rng lo hi=>obtain⟨t,u,v,e⟩:=x;exact⟨t,u,v,k _ _ (.inl rfl) e⟩
 | frz ob u ih=>obtain⟨e,q⟩:=x;exact⟨k _ _ (.inl rfl) e,ih q⟩
 | tbl ps=>
  have e:h.get? a=some { cls:=.none,data:=.fields ps }:=x
  show h'.get? a=some { cls:=.none,data:=.fields ps }
  exact k a _ (.inl rfl) e
 | met f y=>
  have e:h.get? a=some (PySem.W.methodObj (.ref f) (.ref y)):=x
  show h'.get? a=some (PySem.W.methodObj (.ref f) (.ref y))
  exact k a _ (.inl rfl) e
 | ext φ=>obtain⟨p,⟨o,e⟩,st⟩:=x;exact⟨st _ _ p fun o q=>k _ _ (.inl rfl) q,⟨o,k _ _ (.inl rfl) e⟩,st⟩
theorem HOk.lt (x:HOk P w H h) (e:H a=some o):a < h.objs.size:=(x a o e).lt
theorem HOk.fresh (x:HOk P w H h) (e:h.objs.size≤a):H a=none:=by
 cases q:H a with
 | none=>rfl
 | some u=>exact absurd (Nat.lt_of_lt_of_le (x.lt q) e) (Nat.lt_irrefl _)
theorem HOk.kept (x:HOk P w H h) (k:∀ b u,h.get? b=some u→h'.get? b=some u):HOk P w H h':=fun a o e=>
 (x a o e).t7 (fun b u _ q=>k b u q) (fun _ q=>q) fun _ _ q=>q
theorem HOk.laid (x:HOk P w H h) (k:∀ b u,h.get? b=some u→h'.get? b=some u) (hp:h.objs.size≤a) (new:dH P w (upd H a o) h' a o):HOk P w (upd H a o) h':=fun b u e=>by
 have hn:=x.fresh hp
 by_cases hb:b=a
 ·subst hb;rw[aN] at e;cases e;exact new
 ·rw[au hb] at e
  exact(x b u e).t7 (fun c v _ q=>k c v q) (fun c q=>by rw[au (bE q hn)];exact q) fun c xs q=>by rw[au (bE q hn)];exact q
end
def Rd (H:Hp) (a:Addr) (u:HO):Prop:=H a=some u∨∃ o,H a=some (.frz o u)
theorem Rd.ok {P:Program} {w:World} {H:Hp} {h:Heap} {a:Addr} {u:HO} (r:Rd H a u) (x:HOk P w H h):dH P w H h a u:=by
 rcases r with r | ⟨o,r⟩
 ·exact x a u r
 ·obtain⟨_,q⟩:=x a _ r
  exact q
def Mut:Option HO→Prop
 | some (.lst _)=>True
 | some (.dK _)=>True
 | some (.dT _)=>True
 | some (.set _ _)=>True
 | some (.ins _ _ _)=>True
 | some (.ext _)=>True
 | _=>False
section
variable {P:Program} {w:World} {H:Hp} {h h':Heap} {x e:Addr} {o':HO}
theorem HOk.write (ok:HOk P w H h) (mu:Mut (H x)) (he:e=x∨H e=some (.own x)) (k:∀ b u,b≠e→h.get? b=some u→h'.get? b=some u) (heo:∃ u,h'.get? e=some u)
  (new:dH P w (upd H x o') h' x o'):HOk P w (upd H x o') h':=fun b u q=>by
 have nown:∀ c y,H c=some (.own y)→c≠x:=fun c y r z=>by subst z;rw[r] at mu;exact mu
 have ntup:∀ c xs,H c=some (.tup xs)→c≠x:=fun c xs r z=>by subst z;rw[r] at mu;exact mu
 by_cases hb:b=x
 ·subst hb;rw[aN] at q;cases q;exact new
 ·rw[au hb] at q
  by_cases hbe:b=e
  ·have q':H b=some (.own x):=by
    rcases he with z | z
    ·exact absurd (hbe.trans z) hb
    ·rw[hbe];exact z
   rw[q] at q';cases q'
   obtain⟨v,hv⟩:=heo
   exact⟨v,by rw[hbe];exact hv⟩
  ·refine(ok b u q).t7 (fun c v hc r=>k c v ?_ r) (fun c r=>by rw[au (nown c b r)];exact r) fun c xs r=>by rw[au (ntup c xs r)];exact r
   rcases hc with rfl | hc
   ·exact hbe
   ·rintro rfl
    rcases he with z | z
    ·exact nown c b hc z
    ·rw[hc] at z;cases z;exact hb rfl
end
structure Un (fs ex:List Addr) (H H':Hp) (h h':Heap):Prop where
 keep:∀ b o,h.get? b=some o→H b=none→b∉fs→b∉ex→h'.get? b=some o
 slot:∀ b o,h.get? b=some o→H b=none→b∈fs→b∉ex→∃ sl,h'.get? b=some { o with slots:=sl }
 free:∀ b o,h.get? b=some o→H b=none→b∉ex→H' b=none
 there:∀ b o,h.get? b=some o→b∉ex→∃ o',h'.get? b=some o'
 tups:∀ b xs,H b=some (.tup xs)→H' b=some (.tup xs)
 frzs:∀ b o u,H b=some (.frz o u)→H' b=some (.frz o u)
 tbls:∀ b ps,H b=some (.tbl ps)→∃ more,H' b=some (.tbl (ps++more))
section
variable {fs fs' ex ex':List Addr} {H H1 H2:Hp} {h h1 h2 h':Heap} {a x e:Addr} {o:HO}
theorem Un.any (u:Un fs ex H H1 h h1) {b:Addr} {ob:Obj} (q:h.get? b=some ob) (n:H b=none) (hx:b∉ex):∃ sl,h1.get? b=some { ob with slots:=sl }:=by
 by_cases hb:b∈fs
 ·exact u.slot b ob q n hb hx
 ·exact⟨ob.slots,u.keep b ob q n hb hx⟩
theorem Un.kept (k:∀ b u,h.get? b=some u→h'.get? b=some u):Un fs ex H H h h':=
 ⟨fun b ob q _ _ _=>k b ob q,fun b ob q _ _ _=>⟨ob.slots,k b ob q⟩,fun _ _ _ n _=>n,fun b ob q _=>⟨ob,k b ob q⟩,fun _ _ q=>q,fun _ _ _ q=>q,fun _ ps q=>⟨#[],by rw[q];simp⟩⟩
theorem Un.refl:Un fs ex H H h h:=Un.kept fun _ _ q=>q
theorem Un.laid (k:∀ b u,h.get? b=some u→h'.get? b=some u) (hp:h.objs.size≤a) (hn:H a=none):Un fs ex H (upd H a o) h h' where
 keep:=fun b u q _ _ _=>k b u q
 slot:=fun b u q _ _ _=>⟨u.slots,k b u q⟩
 free:=fun b u q n _=>by rw[au (Nat.ne_of_lt (Nat.lt_of_lt_of_le (Heap.lt_size q) hp))];exact n
 there:=fun b u q _=>⟨u,k b u q⟩
 tups:=fun b xs q=>by rw[au (bE q hn)];exact q
 frzs:=fun b u xs q=>by rw[au (bE q hn)];exact q
 tbls:=fun b ps q=>⟨#[],by rw[au (bE q hn),q];simp⟩
theorem Un.write (mu:Mut (H x)) (he:e=x∨H e=some (.own x)) (k:∀ b u,b≠e→h.get? b=some u→h'.get? b=some u) (heo:∃ u,h'.get? e=some u):Un fs ex H (upd H x o) h h':=by
 have hx:∀ b,H b=none→b≠x:=fun b n z=>by subst z;rw[n] at mu;exact mu
 have hb:∀ b,H b=none→b≠e:=fun b n z=>by
  subst z
  rcases he with r | r
  ·exact hx b n r
  ·rw[n] at r;cases r
 have hm:∀ b u,H b=some u→¬ Mut (some u)→b≠x:=fun b u q nm z=>by subst z;rw[q] at mu;exact nm mu
 refine⟨fun b u q n _ _=>k b u (hb b n) q,fun b u q n _ _=>⟨u.slots,k b u (hb b n) q⟩,fun b u q n _=>by rw[au (hx b n)];exact n,fun b u q _=>?_,
  fun b xs q=>by rw[au (hm b _ q fun z=>z)];exact q,fun b u xs q=>by rw[au (hm b _ q fun z=>z)];exact q,fun b ps q=>⟨#[],by rw[au (hm b _ q fun z=>z),q];simp⟩⟩
 by_cases hbe:b=e
 ·subst hbe;exact heo
 ·exact⟨u,k b u hbe q⟩
end
def trk (h:Heap) (H:Hp):List Addr:=(List.range h.objs.size).filter fun a=>(H a).isSome
def wH (h:Heap) (H:Hp):Heap:=PySem.W.hideAll h (trk h H)
theorem B1 (h:Heap) (H:Hp):(wH h H).objs.size=h.objs.size:=PySem.W.hideAll_size _ _
theorem D2 {h:Heap} {H:Hp} {b:Addr} {o:Obj} (e:h.get? b=some o) (n:H b=none):(wH h H).get? b=some o:=
 PySem.W.hideAll_get _ e fun hm=>by
  have q:(H b).isSome=true:=(List.mem_filter.mp hm).2
  rw[n] at q;simp at q
theorem F8 {h:Heap} {H:Hp} {b:Addr} {o:Obj} (e:(wH h H).get? b=some o):h.get? b=some o∧H b=none:=by
 have e':h.get? b=some o:=PySem.W.of_hideAll (trk h H) e
 refine⟨e',?_⟩
 cases q:H b with
 | none=>rfl
 | some x=>
  have hm:b∈trk h H:=List.mem_filter.mpr ⟨List.mem_range.mpr (Heap.lt_size e'),by simp [q]⟩
  have z:(wH h H).get? b=none:=PySem.W.hideAll_none (trk h H) hm
  rw[z] at e;cases e
def GW (g h:Heap) (L:Addr):List (Addr×Obj):=(List.range h.objs.size).filterMap fun a=>if a=L∨(g.get? a).isSome=true then none else (h.get? a).map fun o=>(a,o)
def rest (g h:Heap) (L d:Addr):List (Addr×Obj):=(GW g h L).filter fun p=>decide (p.1≠d)
end L2
namespace L2
open PySem PySem.Spec PyProof.Rows
structure Mod (K:PySem.W.Frag) (mg:Str→Option Value) (base:Heap):Prop where
 kin:K.In base
 glob:base.Ns mainGlobals mg
 blt:∃ mb,base.Ns builtinsNs mb∧∀ x:Str,x≠"__name__"→mb x=bootBuiltins x
 nolimit:base.NoLimit
structure Cx where
 prog:Program
 w:World
 K:PySem.W.Frag
 mg:Str→Option Value
 base:Heap
 A:Around
 N:List Str
 s₀:Shared
 H₀:Hp
 env:Env
 outer:List Env
 stack:List Env
 ex:List Addr
 fn:Str→Bool
 calm:Bool
 pn:List (Addr×Obj)
 xe:Value→Shared→Prop
def frs (l:List Env):List Addr:=l.filterMap (·.frame)
abbrev Cx.fs (X:Cx):List Addr:=frs X.outer
def Vis (sc:Scope) (x:Str):Prop:=sc.names.lookup x=some .local∨sc.names.lookup x=some .cell∨sc.names.lookup x=some .free
def Loc (sc:Scope) (x:Str):Prop:=sc.names.lookup x=some .local∨sc.names.lookup x=some .cell
def Look (env:Env) (h:Heap) (m:Str→Option Value) (x:Str) (u:Value):Prop:=
 (env.kindOf x=some .local∧m x=some u)∨((env.kindOf x=some .cell∨env.kindOf x=some .free)∧∃ c,env.cells.lookup x=some c∧h.IsCell c (some u))
structure Cx.Ok (X:Cx):Prop where
 mod:Mod X.K X.mg X.base
 kind:X.env.scope.kind=.function
 glob:X.env.globals=mainGlobals
 blt:X.env.builtins=builtinsNs
 above:X.s₀.heap.objs.size≤X.env.locals
 inj:∀ x y c,X.env.cells.lookup x=some c→X.env.cells.lookup y=some c→x=y
 has:∀ x,(X.env.kindOf x=some .cell∨X.env.kindOf x=some .free)→∃ c,X.env.cells.lookup x=some c
 cab:∀ x c,X.fn x=true→X.env.cells.lookup x=some c→X.s₀.heap.objs.size≤c
 hd:X.calm=true→X.A.handled=none
 frames:X.A.frames=some X.stack
 stk:X.stack=X.outer∨(X.stack=X.env::X.outer∧X.env.frame=some X.env.locals)
 exf:∀ b∈X.ex,b≠X.env.locals∧∀ x c,X.env.cells.lookup x=some c→c≠b
 bs:∀ b o,X.base.get? b=some o→X.s₀.heap.get? b=some o∧X.H₀ b=none
 bsz:X.base.objs.size≤X.s₀.heap.objs.size
 noex:∀ b o,X.base.get? b=some o→b∉X.ex
 exfs:∀ b∈X.ex,b∉X.fs
 p7:X.s₀.heap.FunFrames X.base X.outer
 frf:∀ b∈X.fs,X.H₀ b=none
structure Inv (X:Cx) (pins:List (Addr×Obj)) (σ:List (Option V)) (H:Hp) (s:Shared):Prop where
 ok:X.Ok
 os:s.os=X.s₀.os
 bare:AllBare s.gens
 base:Un X.fs X.ex X.H₀ H X.s₀.heap s.heap
 loc:∃ m,s.heap.Ns X.env.locals m∧∀ (i:Nat) (x:Str) (v:V),X.N[i]?=some x→σ[i]?=some (some v)→Vis X.env.scope x→∃ u,RelV v u∧Look X.env s.heap m x u
 cell:∀ x c,X.env.cells.lookup x=some c→∃ v,s.heap.IsCell c v
 free:H X.env.locals=none
 freeC:∀ x c,X.env.cells.lookup x=some c→H c=none
 pin:∀ p∈X.pn++pins,s.heap.get? p.1=some p.2∧H p.1=none∧p.1≠X.env.locals∧p.1∉X.fs∧∀ v,p.2.data≠.cell v
 hok:HOk X.prog X.w H s.heap
 len:σ.length=X.N.length
section
variable {X:Cx} {pins:List (Addr×Obj)} {σ:List (Option V)} {H H':Hp} {s:Shared} {h':Heap}
theorem Cx.Ok.Ly (ok:X.Ok) {b:Addr} {o:Obj} (e:X.base.get? b=some o):b∉X.fs:=fun hb=>by
 have:=(ok.p7.mem hb).1
 rw[e] at this;cases this
theorem Inv.bs (I:Inv X pins σ H s):∀ b o,X.base.get? b=some o→s.heap.get? b=some o∧H b=none:=fun b o e=>
 ⟨I.base.keep b o (I.ok.bs b o e).1 (I.ok.bs b o e).2 (I.ok.Ly e) (I.ok.noex b o e),I.base.free b o (I.ok.bs b o e).1 (I.ok.bs b o e).2 (I.ok.noex b o e)⟩
theorem Inv.bk (I:Inv X pins σ H s):∀ b o,X.base.get? b=some o→s.heap.get? b=some o:=fun b o e=>(I.bs b o e).1
theorem Inv.mod (I:Inv X pins σ H s):Mod X.K X.mg X.base:=I.ok.mod
theorem Inv.kIn (I:Inv X pins σ H s):X.K.In s.heap:=I.ok.mod.kin.keeps I.bk
theorem Inv.lt (I:Inv X pins σ H s):X.env.locals < s.heap.objs.size:=let ⟨_,hn,_⟩:=I.loc;hn.lt
theorem Inv.sz (I:Inv X pins σ H s):X.s₀.heap.objs.size≤s.heap.objs.size:=Nat.le_trans I.ok.above (Nat.le_of_lt I.lt)
theorem Inv.Lx (I:Inv X pins σ H s) {a:Addr} (h:s.heap.objs.size≤a):a∉X.fs:=fun hb=>by
 obtain⟨_,o,ho,_⟩:=I.ok.p7.mem hb
 exact absurd (Nat.lt_of_lt_of_le (Heap.lt_size ho) (Nat.le_trans I.sz h)) (Nat.lt_irrefl _)
theorem Inv.cne (I:Inv X pins σ H s):∀ x c,X.env.cells.lookup x=some c→c≠X.env.locals:=fun x c e z=>by
 obtain⟨v,o,ho,hd⟩:=I.cell x c e
 obtain⟨m,⟨o',es,ep,ho',hd',_⟩,_⟩:=I.loc
 rw[z,ho'] at ho;cases ho;rw[hd'] at hd;cases hd
theorem Inv.p7 (I:Inv X pins σ H s):s.heap.FunFrames X.base X.outer:=by
 have all:∀ (l:List Env),(∀ b∈frs l,b∈X.fs)→X.s₀.heap.FunFrames X.base l→s.heap.FunFrames X.base l:=by
  intro l
  induction l with
  | nil=>intro _ _;trivial
  | cons env r ih=>
   intro hs hl
   obtain⟨hk,⟨L,o,hf,hn,ho,hd⟩,hr⟩:=hl
   have hL:L∈X.fs:=hs L (by unfold frs;rw[List.filterMap_cons,hf];exact List.mem_cons_self)
   obtain⟨sl,e⟩:=I.base.slot L o ho (I.ok.frf L hL) hL fun z=>I.ok.exfs L z hL
   exact⟨hk,⟨L,_,hf,hn,e,hd⟩,ih (fun b hb=>hs b (by unfold frs;rw[List.filterMap_cons,hf];exact List.mem_cons_of_mem _ hb)) hr⟩
 exact all X.outer (fun _ hb=>hb) I.ok.p7
theorem Inv.stack (I:Inv X pins σ H s):s.heap.FunFrames X.base X.stack:=by
 rcases I.ok.stk with e | ⟨e,hf⟩
 ·rw[e];exact I.p7
 ·rw[e]
  obtain⟨m,hn,_⟩:=I.loc
  refine .cons (by rw[I.ok.kind];decide) hf hn ?_ I.p7
  exact Heap.get?_none_of_le (Nat.le_trans I.ok.bsz I.ok.above)
theorem Inv.vt (I:Inv X pins σ H s):∀ b∈frs X.stack,b∈X.env.locals::X.fs:=fun b hb=>by
 rcases I.ok.stk with e | ⟨e,hf⟩
 ·rw[e] at hb;exact List.mem_cons_of_mem _ hb
 ·rw[e] at hb
  unfold frs at hb
  rw[List.filterMap_cons,hf] at hb
  exact hb
theorem Inv.Aj (I:Inv X pins σ H s):∀ b∈frs X.stack,H b=none:=fun b hb=>by
 rcases List.mem_cons.mp (I.vt b hb) with e | hb
 ·rw[e];exact I.free
 ·obtain⟨_,o,ho,_⟩:=I.ok.p7.mem hb
  exact I.base.free b o ho (I.ok.frf b hb) fun z=>I.ok.exfs b z hb
theorem Inv.step {g':Array GenState} {t':Nat} {d':Drawn} {ch:List Addr} (I:Inv X pins σ H s)
  (hch:∀ b∈ch,(b∈X.ex∨X.s₀.heap.objs.size≤b)∧b≠X.env.locals∧(∀ x c,X.env.cells.lookup x=some c→c≠b)∧∀ p∈X.pn++pins,p.1≠b)
  (keep:∀ b o,b≠X.env.locals→b∉X.fs→b∉ch→s.heap.get? b=some o→H b=none→h'.get? b=some o)
  (slot:∀ b o,b≠X.env.locals→b∈X.fs→b∉ch→s.heap.get? b=some o→H b=none→∃ sl,h'.get? b=some { o with slots:=sl }) (free:∀ b o,b∉ch→s.heap.get? b=some o→H b=none→H' b=none)
  (there:∀ b o,b∉ch→s.heap.get? b=some o→∃ o',h'.get? b=some o')
  (tups:∀ b xs,H b=some (.tup xs)→H' b=some (.tup xs)) (frzs:∀ b o u,H b=some (.frz o u)→H' b=some (.frz o u)) (tbls:∀ b ps,H b=some (.tbl ps)→∃ more,H' b=some (.tbl (ps++more)))
  (ns:∀ m,s.heap.Ns X.env.locals m→h'.Ns X.env.locals m) (hok:HOk X.prog X.w H' h') (hg:AllBare g') :
  Inv X pins σ H' { s with heap:=h',gens:=g',drawn:=d',toks:=t' }:=by
 have neL:∀ b o,X.s₀.heap.get? b=some o→b≠X.env.locals:=fun b o e=>Nat.ne_of_lt (Nat.lt_of_lt_of_le (Heap.lt_size e) I.ok.above)
 have neC:∀ b o,X.s₀.heap.get? b=some o→b∉X.ex→b∉ch:=fun b o e hx hb=>by
  rcases(hch b hb).1 with z | z
  ·exact hx z
  ·exact absurd (Nat.lt_of_lt_of_le (Heap.lt_size e) z) (Nat.lt_irrefl _)
 have cellK:∀ x c,X.env.cells.lookup x=some c→∀ v,s.heap.IsCell c v→h'.IsCell c v:=fun x c e v ⟨o,ho,hd⟩=>by
  have nch:c∉ch:=fun z=>(hch c z).2.2.1 x c e rfl
  by_cases hc:c∈X.fs
  ·obtain⟨sl,q⟩:=slot c o (I.cne x c e) hc nch ho (I.freeC x c e)
   exact⟨_,q,hd⟩
  ·exact⟨o,keep c o (I.cne x c e) hc nch ho (I.freeC x c e),hd⟩
 refine⟨I.ok,I.os,hg,⟨fun b o e n hb hx=>?_,fun b o e n hb hx=>?_,fun b o e n hx=>?_,fun b o e hx=>?_,fun b xs e=>tups b xs (I.base.tups b xs e),fun b o xs e=>frzs b o xs (I.base.frzs b o xs e),fun b ps e=>?_⟩,?_,fun x c e=>?_,?_,fun x c e=>?_,fun p hp=>?_,hok,I.len⟩
 ·exact keep b o (neL b o e) hb (neC b o e hx) (I.base.keep b o e n hb hx) (I.base.free b o e n hx)
 ·obtain⟨sl,e1⟩:=I.base.slot b o e n hb hx
  obtain⟨sl',e2⟩:=slot b _ (neL b o e) hb (neC b o e hx) e1 (I.base.free b o e n hx)
  exact⟨sl',e2⟩
 ·obtain⟨o',e1⟩:=I.base.there b o e hx
  exact free b o' (neC b o e hx) e1 (I.base.free b o e n hx)
 ·obtain⟨o',e1⟩:=I.base.there b o e hx
  exact there b o' (neC b o e hx) e1
 ·obtain⟨m1,e1⟩:=I.base.tbls b ps e
  obtain⟨m2,e2⟩:=tbls b _ e1
  exact⟨m1++m2,by rw[e2,Array.append_assoc]⟩
 ·obtain⟨m,hn,hl⟩:=I.loc
  refine⟨m,ns m hn,fun i x v e1 e2 e3=>?_⟩
  obtain⟨u,r,l⟩:=hl i x v e1 e2 e3
  refine⟨u,r,?_⟩
  rcases l with l | ⟨k,c,e,z⟩
  ·exact .inl l
  ·exact .inr ⟨k,c,e,cellK x c e _ z⟩
 ·obtain⟨v,z⟩:=I.cell x c e
  exact⟨v,cellK x c e v z⟩
 ·obtain⟨m,⟨o,_,_,ho,_⟩,_⟩:=I.loc
  exact free _ o (fun z=>(hch _ z).2.1 rfl) ho I.free
 ·obtain⟨v,o,ho,hd⟩:=I.cell x c e
  exact free c o (fun z=>(hch c z).2.2.1 x c e rfl) ho (I.freeC x c e)
 ·obtain⟨e,n,ne,nf,d⟩:=I.pin p hp
  have nch:p.1∉ch:=fun z=>(hch p.1 z).2.2.2 p hp rfl
  exact⟨keep p.1 p.2 ne nf nch e n,free p.1 p.2 nch e n,ne,nf,d⟩
theorem Inv.un {t':Nat} (I:Inv X pins σ H s) (u:Un X.fs [] H H' s.heap h') (hok:HOk X.prog X.w H' h'):Inv X pins σ H' { s with heap:=h',toks:=t' }:=by
 obtain⟨m,⟨o,es,ep,ho,r⟩,_⟩:=id I.loc
 obtain⟨sl,hL⟩:=u.any ho I.free (by simp)
 exact I.step (g':=s.gens) (d':=s.drawn) (ch:=[]) (fun _ z=>nomatch z) (fun b o _ hb _ e n=>u.keep b o e n hb (by simp)) (fun b o _ hb _ e n=>u.slot b o e n hb (by simp)) (fun b o _ e n=>u.free b o e n (by simp)) (fun b o _ e=>u.there b o e (by simp)) u.tups u.frzs u.tbls (fun m' hm=>by
  obtain⟨o',es',ep',ho',r'⟩:=hm
  rw[ho] at ho';cases ho'
  exact⟨_,es',ep',hL,r'⟩) hok I.bare
theorem Inv.call {g':Array GenState} {t':Nat} {d':Drawn} {ch:List Addr} (I:Inv X pins σ H s) (u:Un (frs X.stack) ch H H' s.heap h') (hok:HOk X.prog X.w H' h') (hg:AllBare g')
  (hch:∀ b∈ch,(b∈X.ex∨X.s₀.heap.objs.size≤b)∧b≠X.env.locals∧(∀ x c,X.env.cells.lookup x=some c→c≠b)∧∀ p∈X.pn++pins,p.1≠b) :
  Inv X pins σ H' { s with heap:=h',gens:=g',drawn:=d',toks:=t' }:=by
 obtain⟨m,⟨o,es,ep,ho,r⟩,_⟩:=id I.loc
 obtain⟨sl,hL⟩:=u.any ho I.free fun z=>(hch _ z).2.1 rfl
 exact I.step (ch:=ch) hch (fun b o hL hb hc e n=>u.keep b o e n (fun z=>(List.mem_cons.mp (I.vt b z)).elim hL hb) hc) (fun b o _ _ hc e n=>u.any e n hc) (fun b o hc e n=>u.free b o e n hc) (fun b o hc e=>u.there b o e hc) u.tups u.frzs u.tbls (fun m' hm=>by
  obtain⟨o',es',ep',ho',r'⟩:=hm
  rw[ho] at ho';cases ho'
  exact⟨_,es',ep',hL,r'⟩) hok hg
theorem Inv.turned {t':Nat} {it:Addr} (I:Inv X pins σ H s) (k:∀ b o,b≠it→s.heap.get? b=some o→h'.get? b=some o) (hn:H it=none) (hL:it≠X.env.locals)
  (h1:it∈X.ex∨X.s₀.heap.objs.size≤it) (h2:∀ x c,X.env.cells.lookup x=some c→c≠it) (h3:∀ p∈X.pn++pins,p.1≠it):Inv X pins σ H { s with heap:=h',toks:=t' }:=by
 have nit:∀ b u,H b=some u→b≠it:=fun b u e z=>by rw[z,hn] at e;cases e
 refine I.step (g':=s.gens) (d':=s.drawn) (ch:=[it]) (fun b hb=>?_) (fun b o _ _ hc e _=>k b o (fun z=>hc (by simp [z])) e) (fun b o _ _ hc e _=>⟨o.slots,k b o (fun z=>hc (by simp [z])) e⟩) (fun _ _ _ _ n=>n)
  (fun b o hc e=>⟨o,k b o (fun z=>hc (by simp [z])) e⟩) (fun _ _ e=>e) (fun _ _ _ e=>e) (fun b ps e=>⟨#[],by rw[e];simp⟩) (fun m hm=>?_) (fun b u e=>?_) I.bare
 ·have e:b=it:=by simpa using hb
  subst e
  exact⟨h1,hL,h2,h3⟩
 ·obtain⟨o,es,ep,ho,r⟩:=hm
  exact⟨o,es,ep,k _ o (Ne.symm hL) ho,r⟩
 ·refine(I.hok b u e).t7 (fun c v hc q=>k c v ?_ q) (fun _ q=>q) fun _ _ q=>q
  rcases hc with z | z
  ·rw[z];exact nit b u e
  ·exact nit c _ z
theorem Inv.tok (I:Inv X pins σ H s) (t:Nat):Inv X pins σ H { s with toks:=t }:=I.un (h':=s.heap) (t':=t) Un.refl I.hok
theorem Inv.kept {t':Nat} (I:Inv X pins σ H s) (k:∀ b u,s.heap.get? b=some u→h'.get? b=some u):Inv X pins σ H { s with heap:=h',toks:=t' }:=I.un (Un.kept k) (I.hok.kept k)
theorem Inv.laid {a:Addr} {o:HO} {t':Nat} (I:Inv X pins σ H s) (k:∀ b u,s.heap.get? b=some u→h'.get? b=some u) (hp:s.heap.objs.size≤a) (new:dH X.prog X.w (upd H a o) h' a o) :
  Inv X pins σ (upd H a o) { s with heap:=h',toks:=t' }:=I.un (Un.laid k hp (I.hok.fresh hp)) (I.hok.laid k hp new)
theorem Inv.write {x e:Addr} {o:HO} {t':Nat} (I:Inv X pins σ H s) (mu:Mut (H x)) (he:e=x∨H e=some (.own x)) (k:∀ b u,b≠e→s.heap.get? b=some u→h'.get? b=some u) (heo:∃ u,h'.get? e=some u)
  (new:dH X.prog X.w (upd H x o) h' x o):Inv X pins σ (upd H x o) { s with heap:=h',toks:=t' }:=I.un (Un.write mu he k heo) (I.hok.write mu he k heo new)
theorem Inv.j9 {pins':List (Addr×Obj)} (I:Inv X pins σ H s) (h:∀ p∈pins',s.heap.get? p.1=some p.2∧H p.1=none∧p.1≠X.env.locals∧p.1∉X.fs∧∀ v,p.2.data≠.cell v):Inv X pins' σ H s:=
 ⟨I.ok,I.os,I.bare,I.base,I.loc,I.cell,I.free,I.freeC,fun p hp=>(List.mem_append.mp hp).elim (fun z=>I.pin p (List.mem_append_left _ z)) (h p),I.hok,I.len⟩
theorem xZ {N:List Str} (hN:N.Nodup) {i j:Nat} {x:Str} (a:N[i]?=some x) (b:N[j]?=some x):i=j:=by
 obtain⟨h1,e1⟩:=List.getElem?_eq_some_iff.mp a
 obtain⟨h2,e2⟩:=List.getElem?_eq_some_iff.mp b
 exact(List.getElem_inj hN).mp (e1.trans e2.symm)
theorem uG {M:Model} {A:Around} {E:Value→Shared→Prop} {i:Nat} {x:Str} {v:V} {u:Value} {Q:Unit→Shared→Prop} (I:Inv X pins σ H s) (hN:X.N.Nodup) (hi:X.N[i]?=some x) (hx:Loc X.env.scope x) (r:RelV v u)
  (h:∀ s',Inv X pins (σ.set i (some v)) H s'→(∃ a,Heap.SameBut a s.heap s'.heap∧(a=X.env.locals∨X.env.cells.lookup x=some a))→Q () s') (hf:X.fn x=true∨X.env.scope.names.lookup x=some .local:=by first | exact .inl rfl | exact .inr rfl | assumption):wpAny M A (storeName X.env x u) Q E s:=by
 obtain⟨m,hn,hl⟩:=id I.loc
 have hcls:(X.env.scope.kind == .class || (X.env.scope.kind == .module && X.env.locals != X.env.globals))=false:=by rw[I.ok.kind];rfl
 have hiσ:i < σ.length:=by rw[I.len];exact(List.getElem?_eq_some_iff.mp hi).1
 have cne:=I.cne
 have tracked:∀ {a:Addr} {h':Heap},(∃ o,s.heap.get? a=some o∧H a=none)→Heap.SameBut a s.heap h'→HOk X.prog X.w H h':=fun {a h'} ha hs b ob e=>by
  obtain⟨_,_,hfree⟩:=ha
  refine(I.hok b ob e).t7 (fun c w' hc q=>(hs.2 c ?_).trans q) (fun _ q=>q) fun _ _ q=>q
  rintro rfl
  rcases hc with rfl | hc
  ·rw[hfree] at e;cases e
  ·rw[hfree] at hc;cases hc
 rcases hx with hk | hk
 ·refine wpAny_storeName_local hk hn (fun h' hn' hs=>?_) hcls
  obtain⟨oL,_,_,hoL,_⟩:=id hn
  refine h _ ⟨I.ok,I.os,I.bare,⟨fun b o e n hb hx=>?_,fun b o e n hb hx=>?_,I.base.free,fun b o e hx=>?_,I.base.tups,I.base.frzs,I.base.tbls⟩,⟨_,hn',fun j y v' e1 e2 e3=>?_⟩,fun y c e=>?_,I.free,I.freeC,fun p hp=>?_,tracked ⟨oL,hoL,I.free⟩ hs,by simpa using I.len⟩ ⟨_,hs,.inl rfl⟩
  ·exact(hs.2 b (Nat.ne_of_lt (Nat.lt_of_lt_of_le (Heap.lt_size e) I.ok.above))).trans (I.base.keep b o e n hb hx)
  ·obtain⟨sl,e1⟩:=I.base.slot b o e n hb hx
   exact⟨sl,(hs.2 b (Nat.ne_of_lt (Nat.lt_of_lt_of_le (Heap.lt_size e) I.ok.above))).trans e1⟩
  ·obtain⟨o',e1⟩:=I.base.there b o e hx
   exact⟨o',(hs.2 b (Nat.ne_of_lt (Nat.lt_of_lt_of_le (Heap.lt_size e) I.ok.above))).trans e1⟩
  ·by_cases hj:j=i
   ·subst hj
    rw[hi] at e1;cases e1
    rw[List.getElem?_set_self hiσ] at e2
    cases e2
    exact⟨u,r,.inl ⟨hk,by simp⟩⟩
   ·rw[List.getElem?_set_ne (Ne.symm hj)] at e2
    obtain⟨u',r',q⟩:=hl j y v' e1 e2 e3
    refine⟨u',r',?_⟩
    rcases q with ⟨k,e⟩ | ⟨k,c,e,z⟩
    ·refine .inl ⟨k,?_⟩
     have:y≠x:=fun e=>hj (xZ hN e1 (e ▸ hi))
     simp [this,e]
    ·exact .inr ⟨k,c,e,z.sameBut hs (cne y c e)⟩
  ·obtain⟨w',z⟩:=I.cell y c e
   exact⟨w',z.sameBut hs (cne y c e)⟩
  ·obtain⟨e,n,ne,nf,d⟩:=I.pin p hp
   exact⟨(hs.2 p.1 ne).trans e,n,ne,nf,d⟩
 ·have hfn:X.fn x=true:=by
   rcases hf with z | z
   ·exact z
   ·rw[z] at hk;cases hk
  obtain⟨c,hc⟩:=I.ok.has x (.inl hk)
  obtain⟨w',z⟩:=I.cell x c hc
  refine wpAny_storeName_cell I.ok.kind hk hc z (fun h' hc' hs=>?_)
  obtain⟨oc,hoc,hocd⟩:=id z
  refine h { s with heap:=h' } ⟨I.ok,I.os,I.bare,⟨fun b o e n hb hx=>?_,fun b o e n hb hx=>?_,I.base.free,fun b o e hx=>?_,I.base.tups,I.base.frzs,I.base.tbls⟩,⟨m,hn.sameBut hs (Ne.symm (cne x c hc)),fun j y v' e1 e2 e3=>?_⟩,fun y c' e=>?_,I.free,I.freeC,fun p hp=>?_,tracked ⟨oc,hoc,I.freeC x c hc⟩ hs,by simpa using I.len⟩ ⟨c,hs,.inr hc⟩
  ·exact(hs.2 b (Nat.ne_of_lt (Nat.lt_of_lt_of_le (Heap.lt_size e) (I.ok.cab x c hfn hc)))).trans (I.base.keep b o e n hb hx)
  ·obtain⟨sl,e1⟩:=I.base.slot b o e n hb hx
   exact⟨sl,(hs.2 b (Nat.ne_of_lt (Nat.lt_of_lt_of_le (Heap.lt_size e) (I.ok.cab x c hfn hc)))).trans e1⟩
  ·obtain⟨o',e1⟩:=I.base.there b o e hx
   exact⟨o',(hs.2 b (Nat.ne_of_lt (Nat.lt_of_lt_of_le (Heap.lt_size e) (I.ok.cab x c hfn hc)))).trans e1⟩
  ·by_cases hj:j=i
   ·subst hj
    rw[hi] at e1;cases e1
    rw[List.getElem?_set_self hiσ] at e2
    cases e2
    exact⟨u,r,.inr ⟨.inl hk,c,hc,hc'⟩⟩
   ·rw[List.getElem?_set_ne (Ne.symm hj)] at e2
    obtain⟨u',r',q⟩:=hl j y v' e1 e2 e3
    refine⟨u',r',?_⟩
    rcases q with q | ⟨k,c',e,z'⟩
    ·exact .inl q
    ·refine .inr ⟨k,c',e,z'.sameBut hs ?_⟩
     rintro rfl
     exact hj (xZ hN e1 (I.ok.inj _ _ _ e hc ▸ hi))
  ·by_cases hcc:c'=c
   ·subst hcc;exact⟨_,hc'⟩
   ·obtain⟨w2,z2⟩:=I.cell y c' e
    exact⟨w2,z2.sameBut hs hcc⟩
  ·obtain⟨e,n,ne,nf,d⟩:=I.pin p hp
   refine⟨(hs.2 p.1 ?_).trans e,n,ne,nf,d⟩
   intro q
   rw[q,hoc] at e
   have q':oc=p.2:=Option.some.inj e
   exact d w' (by rw[← q'];exact hocd)
theorem lD {M:Model} {A:Around} {E:Value→Shared→Prop} {i:Nat} {x:Str} {v:V} {u:Value} {Q:Unit→Shared→Prop} (I:Inv X pins σ H s) (hN:X.N.Nodup) (hi:X.N[i]?=some x) (hx:Loc X.env.scope x) (r:RelV v u)
  (h:∀ s',Inv X pins (σ.set i (some v)) H s'→Q () s') (hf:X.fn x=true∨X.env.scope.names.lookup x=some .local:=by first | exact .inl rfl | exact .inr rfl | assumption):wpAny M A (storeName X.env x u) Q E s:=
 uG I hN hi hx r (fun s' I' _=>h s' I') hf
theorem Inv.Hx {s':Shared} {ch:List Addr} (I:Inv X pins σ H s) (ho:s'.os=s.os) (u:Un (frs X.stack) ch H H' s.heap s'.heap) (hok:HOk X.prog X.w H' s'.heap) (hg:AllBare s'.gens)
  (hch:∀ b∈ch,(b∈X.ex∨X.s₀.heap.objs.size≤b)∧b≠X.env.locals∧(∀ x c,X.env.cells.lookup x=some c→c≠b)∧∀ p∈X.pn++pins,p.1≠b):Inv X pins σ H' s':=by
 obtain⟨h',g',d',t',o'⟩:=s'
 have e:o'=s.os:=ho
 subst e
 exact I.call (g':=g') (t':=t') (d':=d') u hok hg hch
end
abbrev XK:=Value→Option Addr→Hp→Prop
abbrev St:=List (Option V)
abbrev VK:=V→Hp→Prop
abbrev TE:=St→Hp→VK→Prop
abbrev TT:=St→Hp→(Bool→Hp→Prop)→Prop
abbrev TA:=St→Hp→(List V→Hp→Prop)→Prop
structure Ends where
 nx:St→Hp→Prop
 rt:VK
 bk:St→Hp→Prop:=fun _ _=>False
 ct:St→Hp→Prop:=fun _ _=>False
abbrev TS:=Ends→St→Hp→Prop
def EP (X:Cx) (pins:List (Addr×Obj)) (σ:St) (Q:VK) (u:Value) (s':Shared):Prop:=∃ v H',Inv X pins σ H' s'∧RelV v u∧Q v H'
def TP (X:Cx) (pins:List (Addr×Obj)) (σ:St) (Q:Bool→Hp→Prop) (b:Bool) (s':Shared):Prop:=∃ H',Inv X pins σ H' s'∧Q b H'
def AP (X:Cx) (pins:List (Addr×Obj)) (σ:St) (Q:List V→Hp→Prop) (us:List Value) (s':Shared):Prop:=∃ vs H',Inv X pins σ H' s'∧Vals vs us∧Q vs H'
def SP (X:Cx) (pins:List (Addr×Obj)) (D:Ends) (f:Flow) (s':Shared):Prop:=
 match f with
 | .next=>∃ σ' H',Inv X pins σ' H' s'∧D.nx σ' H'
 | .brk=>∃ σ' H',Inv X pins σ' H' s'∧D.bk σ' H'
 | .cont=>∃ σ' H',Inv X pins σ' H' s'∧D.ct σ' H'
 | .ret u=>∃ v σ' H',Inv X pins σ' H' s'∧RelV v u∧D.rt v H'
def PE (X:Cx) (e:Expr) (t:TE):Prop:=
 ∀ (pins:List (Addr×Obj)) (s:Shared) (σ:St) (H:Hp) (Q:VK),Inv X pins σ H s→t σ H Q→wpAny (model X.prog X.w) X.A (eval e X.env) (EP X pins σ Q) X.xe s
def PT (X:Cx) (e:Expr) (t:TT):Prop:=
 ∀ (pins:List (Addr×Obj)) (s:Shared) (σ:St) (H:Hp) (Q:Bool→Hp→Prop),Inv X pins σ H s→t σ H Q→wpAny (model X.prog X.w) X.A (isTrue e X.env (eval e X.env)) (TP X pins σ Q) X.xe s
def PW (X:Cx) (e:Expr) (t:TT):Prop:=
 ∀ (whole:Sem Value) (pins:List (Addr×Obj)) (s:Shared) (σ:St) (H:Hp) (Q:Bool→Hp→Prop),Inv X pins σ H s→t σ H Q→wpAny (model X.prog X.w) X.A (isTrue e X.env whole) (TP X pins σ Q) X.xe s
theorem PW.pt {X:Cx} {e:Expr} {t:TT} (h:PW X e t):PT X e t:=h _
def PA (X:Cx) (es:List Expr) (t:TA):Prop:=
 ∀ (pos:Pos) (pins:List (Addr×Obj)) (s:Shared) (σ:St) (H:Hp) (Q:List V→Hp→Prop),Inv X pins σ H s→t σ H Q→wpAny (model X.prog X.w) X.A (spliced (backTo pos (starEach es X.env))) (AP X pins σ Q) X.xe s
def PS (X:Cx) (st:Stmt) (t:TS):Prop:=
 ∀ (pins:List (Addr×Obj)) (s:Shared) (σ:St) (H:Hp) (D:Ends),Inv X pins σ H s→t D σ H→wpAny (model X.prog X.w) X.A (exec st X.env) (SP X pins D) X.xe s
def PSs (X:Cx) (st:List Stmt) (t:TS):Prop:=
 ∀ (pins:List (Addr×Obj)) (s:Shared) (σ:St) (H:Hp) (D:Ends),Inv X pins σ H s→t D σ H→wpAny (model X.prog X.w) X.A (execs st X.env) (SP X pins D) X.xe s
theorem thn {α:Type} {t:Sem α} {Q Q':α→Shared→Prop} {M:Model} {A:Around} {E:Value→Shared→Prop} {s:Shared} (h:wpAny M A t Q E s) (hQ:∀ a s,Q a s→Q' a s):wpAny M A t Q' E s:=wpAny_mono h hQ fun _ _ x=>x
end L2
namespace L2
open PySem PySem.Spec PyProof.Rows
section
variable {X:Cx}
theorem bin {a b:Expr} {ta tb:TE} (ha:PE X a ta) (hb:PE X b tb) {pins:List (Addr×Obj)} {s:Shared} {σ:St} {H:Hp} {R:V→V→Hp→Prop} (I:Inv X pins σ H s) (h:ta σ H fun x H1=>tb σ H1 fun y H2=>R x y H2)
  {α:Type} {Q:α→Shared→Prop} {f:Value→Value→Sem α}
  (hf:∀ v u s2 x y H2,Inv X pins σ H2 s2→RelV x v→RelV y u→R x y H2→wpAny (model X.prog X.w) X.A (f v u) Q X.xe s2) :
  wpAny (model X.prog X.w) X.A (eval a X.env) (fun v s₁=>wpAny (model X.prog X.w) X.A (eval b X.env) (fun u s₂=>wpAny (model X.prog X.w) X.A (f v u) Q X.xe s₂) X.xe s₁) X.xe s:=by
 refine thn (ha pins s σ H _ I h) fun v s1 ⟨x,H1,I1,r1,q1⟩=>?_
 refine thn (hb pins s1 σ H1 _ I1 q1) fun u s2 ⟨y,H2,I2,r2,q2⟩=>?_
 exact hf v u s2 x y H2 I2 r1 r2 q2
def dO (i:Nat):TE:=fun σ H Q=>∃ v,σ[i]?=some (some v)∧Q v H
def tC (v:V):TE:=fun _ H Q=>Q v H
theorem y_ {i:Nat} {x:Str} {pos:Pos} (hN:X.N[i]?=some x) (hv:Vis X.env.scope x) (hd:(x == ("__debug__":Str))=false:=by decide) (hcd:(x == ("__classdict__":Str))=false:=by decide):PE X (.Name x pos) (dO i):=by
 intro pins s σ H Q I h
 obtain⟨v,e,h⟩:=h
 obtain⟨m,hn,hl⟩:=I.loc
 obtain⟨u,r,l⟩:=hl i x v hN e hv
 have fin:EP X pins σ Q u s:=⟨v,H,I,r,h⟩
 rcases l with ⟨hk,hm⟩ | ⟨hk,c,hc,hcell⟩
 ·exact wpAny_Name (wpAny_loadName_local I.ok.kind hk hn hm fin) hd
 ·rcases hk with hk | hk
  ·exact wpAny_Name (wpAny_loadName_cell I.ok.kind hk hc hcell fin) hd
  ·exact wpAny_Name (wpAny_loadName_free I.ok.kind hk hc hcell fin hcd) hd
theorem gx {i j pos}:PE X (.Constant (.int i) j pos) (tC (.int i)):=fun _ _ _ H _ I h=>wpAny_Constant_int ⟨.int i,H,I.tok _,⟨_,rfl⟩,h⟩
theorem Kd {b j pos}:PE X (.Constant (.bool b) j pos) (tC (.bl b)):=fun _ _ _ H _ I h=>Constant_bool ⟨.bl b,H,I,rfl,h⟩
theorem za {x j pos}:PE X (.Constant (.str x) j pos) (tC (.str x)):=fun _ _ _ H _ I h=>Calls.Constant_str ⟨.str x,H,I.tok _,⟨_,rfl⟩,h⟩
def Gl (X:Cx) (x:Str):Prop:=X.env.kindOf x=some .globalImplicit
theorem pf {E:Value→Shared→Prop} {pins:List (Addr×Obj)} {s:Shared} {σ:St} {H:Hp} {x:Str} {u:Value} {pos:Pos} {Q:Value→Shared→Prop} (I:Inv X pins σ H s) (hg:Gl X x) (hm:X.mg x=some u) (h:Q u s)
  (hd:(x == ("__debug__":Str))=false:=by decide):wpAny (model X.prog X.w) X.A (eval (.Name x pos) X.env) Q E s:=
 Calls.Name_function_global I.ok.kind hg (Calls.loadGlobal_global (by rw[I.ok.glob];exact I.mod.glob.keeps I.bk) hm h) hd
theorem g_ {E:Value→Shared→Prop} {pins:List (Addr×Obj)} {s:Shared} {σ:St} {H:Hp} {x:Str} {u:Value} {pos:Pos} {Q:Value→Shared→Prop} (I:Inv X pins σ H s) (hg:Gl X x) (hm:X.mg x=none) (hv:bootBuiltins x=some u) (h:Q u s)
  (hn:x≠"__name__":=by decide) (hd:(x == ("__debug__":Str))=false:=by decide):wpAny (model X.prog X.w) X.A (eval (.Name x pos) X.env) Q E s:=by
 obtain⟨mb,h1,h2⟩:=I.mod.blt
 exact Calls.Name_function_global I.ok.kind hg (Calls.loadGlobal_builtin (by rw[I.ok.glob];exact I.mod.glob.keeps I.bk) hm (by rw[I.ok.blt];exact h1.keeps I.bk) ((h2 x hn).trans hv) h) hd
theorem Au {x:Str} {v:V} {u:Value} {pos:Pos} (hg:Gl X x) (hm:X.mg x=some u) (r:RelV v u) (hd:(x == ("__debug__":Str))=false:=by decide):PE X (.Name x pos) (tC v):=
 fun _ _ _ H _ I h=>pf I hg hm ⟨v,H,I,r,h⟩ hd
theorem FH {x:Str} {v:V} {u:Value} {pos:Pos} (hg:Gl X x) (hm:X.mg x=none) (hv:bootBuiltins x=some u) (r:RelV v u) (hn:x≠"__name__":=by decide) (hd:(x == ("__debug__":Str))=false:=by decide):PE X (.Name x pos) (tC v):=
 fun _ _ _ H _ I h=>g_ I hg hm hv ⟨v,H,I,r,h⟩ hn hd
def t2I (ta tb:TE) (k:Int→Int→Hp→Prop):St→Hp→Prop:=fun σ H=>ta σ H fun x H1=>tb σ H1 fun y H2=>∃ i j,x=.int i∧y=.int j∧k i j H2
def Mh (ta tb:TE):TE:=fun σ H Q=>t2I ta tb (fun i j H2=>Q (.int (i + j)) H2) σ H
def Ma (ta tb:TE):TE:=fun σ H Q=>t2I ta tb (fun i j H2=>Q (.int (i - j)) H2) σ H
def Mc (ta tb:TE):TE:=fun σ H Q=>t2I ta tb (fun i j H2=>(-(2 ^ 64) < i∧i < 2 ^ 64)∧Q (.int (i * j)) H2) σ H
variable {a b:Expr} {ta tb:TE} {pos:Pos}
def PC (X:Cx) (op:CmpOp) (a b:Expr) (t:TE):Prop:=
 ∀ (pins:List (Addr×Obj)) (s:Shared) (σ:St) (H:Hp) (Q:VK),Inv X pins σ H s→t σ H Q→
  wpAny (model X.prog X.w) X.A (eval a X.env) (fun v s₁=>wpAny (model X.prog X.w) X.A (eval b X.env) (fun u s₂=>wpAny (model X.prog X.w) X.A (compareOp op v u) (EP X pins σ Q) X.xe s₂) X.xe s₁) X.xe s
def Bl (p:Int→Int→Bool) (ta tb:TE):TE:=fun σ H Q=>t2I ta tb (fun i j H2=>Q (.bl (p i j)) H2) σ H
abbrev tLt:TE→TE→TE:=Bl fun i j=>decide (i < j)
abbrev tLe:TE→TE→TE:=Bl fun i j=>decide (i≤j)
abbrev tGt:TE→TE→TE:=Bl fun i j=>decide (j < i)
abbrev tGe:TE→TE→TE:=Bl fun i j=>decide (j≤i)
abbrev Me:TE→TE→TE:=Bl fun i j=>decide (i=j)
abbrev Mb:TE→TE→TE:=Bl fun i j=>!decide (i=j)
def Md (ta:TE):TE:=fun σ H Q=>ta σ H fun x H1=>Q (.bl (decide (x=.non))) H1
def LW (ta:TE):TE:=fun σ H Q=>ta σ H fun x H1=>Q (.bl (!decide (x=.non))) H1
def tB (t:TE):TT:=fun σ H Q=>t σ H fun x H1=>∃ c,x=.bl c∧Q c H1
theorem Lu {op:CmpOp} {t:TE} (h:PC X op a b t) (h1:behindInMarks op b=false:=by first | exact nobehind _ (by decide) (by decide) | rfl):PT X (.Compare a [op] [b] pos) (tB t):=by
 intro pins s σ H Q I hw
 refine wpAny_isTrue_Compare1 (thn (h pins s σ H _ I hw) fun v s1 h1=>thn h1 fun u s2 h2=>thn h2 fun c s3 ⟨x,H1,I1,r1,q1⟩=>?_) h1
 obtain⟨d,rfl,q⟩:=q1
 cases r1
 exact wpAny_truthy_bool ⟨H1,I1,q⟩
theorem H9 {e:Expr} {t:TE} (h:PE X e t) (he:∀ whole,isTrue e X.env whole=(do let v ← whole;standAt e.pos;holding [v] (truthy v)):=by intro _;rfl):PT X e (tB t):=by
 intro pins s σ H Q I hw
 refine isTrue_plain (thn (h pins s σ H _ I hw) fun v s1 ⟨x,H1,I1,r1,q1⟩=>?_) (he _)
 obtain⟨d,rfl,q⟩:=q1
 cases r1
 exact wpAny_truthy_bool ⟨H1,I1,q⟩
variable {tA tB':TT} {rest:List Expr}
def HJ (t u:TT):TT:=fun σ H Q=>t σ H fun c H1=>if c=true then u σ H1 Q else Q false H1
def tOr (t u:TT):TT:=fun σ H Q=>t σ H fun c H1=>if c=true then Q true H1 else u σ H1 Q
def HH (t:TT):TT:=fun σ H Q=>t σ H fun c H1=>Q (!c) H1
theorem Fo (ha:PT X a tA):PW X (.BoolOp .And [a] pos) tA:=by
 intro wh pins s σ H Q I h
 refine isTrue_and (thn (ha pins s σ H Q I h) fun c s1 e=>?_)
 cases c with
 | true=>exact isTrue_and_nil e
 | false=>exact e
theorem HY (ha:PT X a tA):PW X (.BoolOp .Or [a] pos) tA:=by
 intro wh pins s σ H Q I h
 refine isTrue_or (thn (ha pins s σ H Q I h) fun c s1 e=>?_)
 cases c with
 | false=>exact isTrue_or_nil e
 | true=>exact e
theorem HZ (ha:PT X a tA) (hb:PW X (.BoolOp .And (b::rest) pos) tB'):PW X (.BoolOp .And (a::b::rest) pos) (HJ tA tB'):=by
 intro wh pins s σ H Q I h
 refine isTrue_and (thn (ha pins s σ H _ I h) fun c s1 ⟨H1,I1,q1⟩=>?_)
 cases c with
 | true=>exact hb wh pins s1 σ H1 Q I1 q1
 | false=>exact⟨H1,I1,q1⟩
theorem J6 (ha:PT X a tA) (hb:PW X (.BoolOp .Or (b::rest) pos) tB'):PW X (.BoolOp .Or (a::b::rest) pos) (tOr tA tB'):=by
 intro wh pins s σ H Q I h
 refine isTrue_or (thn (ha pins s σ H _ I h) fun c s1 ⟨H1,I1,q1⟩=>?_)
 cases c with
 | true=>exact⟨H1,I1,q1⟩
 | false=>exact hb wh pins s1 σ H1 Q I1 q1
theorem H_ (ha:PT X a tA):PT X (.UnaryOp .Not a pos) (HH tA):=by
 intro pins s σ H Q I h
 exact isTrue_not (ha pins s σ H (fun c H1=>Q (!c) H1) I h)
def G7 (ta tb:TE):TE:=fun σ H Q=>ta σ H fun x H1=>∃ c,x=.bl c∧if c=true then tb σ H1 Q else Q (.bl false) H1
def JI (ta tb:TE):TE:=fun σ H Q=>ta σ H fun x H1=>∃ c,x=.bl c∧if c=true then Q (.bl true) H1 else tb σ H1 Q
def G3 (ta:TE):TE:=fun σ H Q=>ta σ H fun x H1=>∃ c,x=.bl c∧Q (.bl (!c)) H1
theorem Io {op} {t:TE} (h:PE X a t):PE X (.BoolOp op [a] pos) t:=fun pins s σ H Q I hw=>BoolOp_one (h pins s σ H Q I hw)
theorem Ir (ha:PE X a ta) (hb:PE X (.BoolOp .And (b::rest) pos) tb):PE X (.BoolOp .And (a::b::rest) pos) (G7 ta tb):=by
 intro pins s σ H Q I h
 refine BoolOp_and (thn (ha pins s σ H _ I h) fun v s1 ⟨x,H1,I1,r1,q1⟩=>?_)
 obtain⟨c,rfl,q1⟩:=q1
 cases r1
 refine wpAny_truthy_bool ?_
 cases c with
 | true=>exact hb pins s1 σ H1 Q I1 q1
 | false=>exact⟨.bl false,H1,I1,rfl,q1⟩
theorem Kb (ha:PE X a ta) (hb:PE X (.BoolOp .Or (b::rest) pos) tb):PE X (.BoolOp .Or (a::b::rest) pos) (JI ta tb):=by
 intro pins s σ H Q I h
 refine BoolOp_or (thn (ha pins s σ H _ I h) fun v s1 ⟨x,H1,I1,r1,q1⟩=>?_)
 obtain⟨c,rfl,q1⟩:=q1
 cases r1
 refine wpAny_truthy_bool ?_
 cases c with
 | false=>exact hb pins s1 σ H1 Q I1 q1
 | true=>exact⟨.bl true,H1,I1,rfl,q1⟩
theorem Ip (ha:PE X a ta):PE X (.UnaryOp .Not a pos) (G3 ta):=by
 intro pins s σ H Q I h
 refine UnaryOp_ (thn (ha pins s σ H _ I h) fun v s1 ⟨x,H1,I1,r1,q1⟩=>?_)
 obtain⟨c,rfl,q1⟩:=q1
 cases r1
 exact not_of (wpAny_truthy_bool ⟨.bl (!c),H1,I1,rfl,q1⟩)
def tIf (t:TT) (ta tb:TE):TE:=fun σ H Q=>t σ H fun c H1=>if c=true then ta σ H1 Q else tb σ H1 Q
theorem C_ {c:Expr} (hc:PT X c tA) (ha:PE X a ta) (hb:PE X b tb):PE X (.IfExp c a b pos) (tIf tA ta tb):=by
 intro pins s σ H Q I h
 refine wpAny_IfExp (thn (hc pins s σ H _ I h) fun d s1 ⟨H1,I1,q1⟩=>?_)
 cases d with
 | true=>exact ha pins s1 σ H1 Q I1 q1
 | false=>exact hb pins s1 σ H1 Q I1 q1
end
end L2
namespace L2
open PySem PySem.Spec PyProof.Rows
def SqL (K:PySem.W.Frag) (H:Hp) (a:Addr) (xs:List V):Prop:=
 Rd H a (.lst xs)∨
  ∃ (o:Obj) (its:Array Value) (n:Nat),K.lookup a=some o∧o.cls=.type "list"∧o.dict=none∧o.data=.seq its n∧its.size≤sizeLine∧Vals xs its.toList
def SqT (K:PySem.W.Frag) (H:Hp) (a:Addr) (xs:List V):Prop:=
 Rd H a (.tup xs)∨
  ∃ (o:Obj) (its:Array Value) (n:Nat),K.lookup a=some o∧o.cls=.type "tuple"∧o.data=.seq its n∧its.size≤sizeLine∧Vals xs its.toList
def LG:Value→Option V
 | .none=>some .non
 | .bool b=>some (.bl b)
 | .int i _=>some (.int i)
 | .str x _=>some (.str x)
 | .bytes b _=>some (.byt b)
 | .float b _=>some (.flt b)
 | .ref a=>some (.ref a)
 | .type n=>some (.ty n)
 | _=>none
theorem RelV.abs {x:V} {u:Value} (r:RelV x u):LG u=some x:=by
 cases x with
 | non=>cases r;rfl
 | bl _=>cases r;rfl
 | int _=>obtain⟨t,rfl⟩:=r;rfl
 | str _=>obtain⟨t,rfl⟩:=r;rfl
 | byt _=>obtain⟨t,rfl⟩:=r;rfl
 | flt _=>obtain⟨t,rfl⟩:=r;rfl
 | ref _=>cases r;rfl
 | ty _=>cases r;rfl
theorem RelV.inj {x y:V} {u:Value} (r:RelV x u) (q:RelV y u):x=y:=Option.some.inj (r.abs.symm.trans q.abs)
theorem Vals.inj:∀ {xs ys:List V} {us:List Value},Vals xs us→Vals ys us→xs=ys
 | _,_,_,.nil,.nil=>rfl
 | _,_,_,.cons r t,.cons r' t'=>by rw[r.inj r',Vals.inj t t']
section
variable {X:Cx} {pins:List (Addr×Obj)} {σ:St} {H:Hp} {s:Shared} {a:Addr} {xs ys:List V}
theorem SqL.of {K:PySem.W.Frag} (h:H a=some (.lst xs)):SqL K H a xs:=.inl (.inl h)
theorem Inv.list (I:Inv X pins σ H s) (h:SqL X.K H a xs):∃ its:List Value,Vals xs its∧PlainL s.heap a its.toArray∧xs.length≤sizeLine:=by
 rcases h with h | ⟨o,its,n,hk,hc,hd,hs,hz,r⟩
 ·obtain⟨z,its,n,r,e⟩:=h.ok I.hok
  exact⟨its,r,⟨_,n,e,rfl,rfl,rfl⟩,z⟩
 ·refine⟨its.toList,r,⟨o,n,I.kIn a o hk,hc,hd,by simpa using hs⟩,?_⟩
  have e:=r.length
  simp only[Array.length_toList] at e
  omega
theorem Inv.tuple (I:Inv X pins σ H s) (h:SqT X.K H a xs):∃ its:List Value,Vals xs its∧IsTup s.heap a its.toArray∧xs.length≤sizeLine:=by
 rcases h with h | ⟨o,its,n,hk,hc,hs,hz,r⟩
 ·obtain⟨z,its,r,p⟩:=h.ok I.hok
  exact⟨its,r,p,z⟩
 ·refine⟨its.toList,r,⟨o,I.kIn a o hk,hc,n,by simpa using hs⟩,?_⟩
  have e:=r.length
  simp only[Array.length_toList] at e
  omega
theorem Inv.DP (I:Inv X pins σ H s) (h:SqL X.K H a xs) (h':SqL X.K H a ys):xs=ys:=by
 obtain⟨its,r,⟨o,n,e,_,_,d⟩,_⟩:=I.list h
 obtain⟨its',r',⟨o',n',e',_,_,d'⟩,_⟩:=I.list h'
 rw[e] at e';cases e'
 rw[d] at d'
 injection d' with d1 _
 have:its=its':=by simpa using congrArg Array.toList d1
 subst this
 exact r.inj r'
theorem Inv.Bi (I:Inv X pins σ H s) (h:SqT X.K H a xs) (h':SqT X.K H a ys):xs=ys:=by
 obtain⟨its,r,⟨o,e,_,n,d⟩,_⟩:=I.tuple h
 obtain⟨its',r',⟨o',e',_,n',d'⟩,_⟩:=I.tuple h'
 rw[e] at e';cases e'
 rw[d] at d'
 injection d' with d1 _
 have:its=its':=by simpa using congrArg Array.toList d1
 subst this
 exact r.inj r'
end
abbrev Cx.t5 (X:Cx) (E:Value→Shared→Prop):Cx:={ X with xe:=E }
abbrev Cx.nox (X:Cx):Cx:=X.t5 fun _ _=>False
theorem Cx.Ok.t5 {X:Cx} (ok:X.Ok) (E:Value→Shared→Prop):(X.t5 E).Ok:=
 ⟨ok.mod,ok.kind,ok.glob,ok.blt,ok.above,ok.inj,ok.has,ok.cab,ok.hd,ok.frames,ok.stk,ok.exf,ok.bs,ok.bsz,ok.noex,ok.exfs,ok.p7,ok.frf⟩
theorem Cx.Ok.lz {X:Cx} {E:Value→Shared→Prop} (ok:(X.t5 E).Ok):X.Ok:=
 ⟨ok.mod,ok.kind,ok.glob,ok.blt,ok.above,ok.inj,ok.has,ok.cab,ok.hd,ok.frames,ok.stk,ok.exf,ok.bs,ok.bsz,ok.noex,ok.exfs,ok.p7,ok.frf⟩
section
variable {X:Cx} {pins:List (Addr×Obj)} {σ:St} {H:Hp} {s:Shared} {E:Value→Shared→Prop}
theorem Inv.t5 (I:Inv X pins σ H s) (E:Value→Shared→Prop):Inv (X.t5 E) pins σ H s:=⟨I.ok.t5 E,I.os,I.bare,I.base,I.loc,I.cell,I.free,I.freeC,I.pin,I.hok,I.len⟩
theorem Inv.lz (I:Inv (X.t5 E) pins σ H s):Inv X pins σ H s:=⟨I.ok.lz,I.os,I.bare,I.base,I.loc,I.cell,I.free,I.freeC,I.pin,I.hok,I.len⟩
theorem SP.lz {D:Ends} {f:Flow} {s':Shared} (h:SP (X.t5 E) pins D f s'):SP X pins D f s':=by
 cases f with
 | next=>obtain⟨σ',H',I,q⟩:=h;exact⟨σ',H',I.lz,q⟩
 | brk=>obtain⟨σ',H',I,q⟩:=h;exact⟨σ',H',I.lz,q⟩
 | cont=>obtain⟨σ',H',I,q⟩:=h;exact⟨σ',H',I.lz,q⟩
 | ret u=>obtain⟨v,σ',H',I,r,q⟩:=h;exact⟨v,σ',H',I.lz,r,q⟩
theorem PSs.nox {st:List Stmt} {t:TS} (h:PSs X.nox st t):PSs X st t:=fun pins s σ H D I hw=>
 wpAny_mono (h pins s σ H D (I.t5 _) hw) (fun _ _ q=>q.lz) fun _ _ z=>False.elim z
end
section
variable {X:Cx} {st:Stmt} {rest:List Stmt} {t u:TS} {e:Expr} {te:TE} {pos:Pos}
def G4:TS:=fun D σ H=>D.nx σ H
def JF (t u:TS):TS:=fun D σ H=>t { D with nx:=u D } σ H
theorem Ft:PSs X [] G4:=fun _ _ σ H _ I h=>wpAny_execs_nil ⟨σ,H,I,h⟩
theorem C2 (h1:PS X st t) (h2:PSs X rest u):PSs X (st::rest) (JF t u):=by
 intro pins s σ H D I h
 refine wpAny_execs_cons (thn (h1 pins s σ H { D with nx:=u D } I h) fun f s1 q=>?_)
 cases f with
 | next=>
  obtain⟨σ',H',I',q⟩:=q
  exact h2 pins s1 σ' H' D I' q
 | ret v=>exact q
 | brk=>exact q
 | cont=>exact q
theorem Fs (h1:PS X st t):PSs X [st] t:=by
 intro pins s σ H D I h
 refine wpAny_execs_cons (thn (h1 pins s σ H D I h) fun f s1 q=>?_)
 cases f with
 | next=>exact wpAny_execs_nil q
 | ret v=>exact q
 | brk=>exact q
 | cont=>exact q
def Lq:TS:=fun D σ H=>D.bk σ H
def LY:TS:=fun D σ H=>D.ct σ H
theorem Inv.quiet {pins:List (Addr×Obj)} {σ:St} {H:Hp} {s:Shared} (I:Inv X pins σ H s):interactive X.env=false:=by simp [interactive,I.ok.kind]
def G5 (te:TE):TS:=fun D σ H=>te σ H fun _ H1=>D.nx σ H1
theorem Fu (he:PE X e te) (hs:swapsWith e none pos.line X.env=pure false:=by rfl):PS X (.Expr e pos) (G5 te):=by
 intro pins s σ H D I h
 exact wpAny_Expr_any (thn (he pins s σ H _ I h) fun v s1 ⟨x,H1,I1,r1,q1⟩=>⟨σ,H1,I1,q1⟩) I.quiet hs
def JG (te:TE):TS:=fun D σ H=>te σ H D.rt
theorem Ib (he:PE X e te):PS X (.Return (some e) pos) (JG te):=by
 intro pins s σ H D I h
 exact wpAny_Return_some (thn (he pins s σ H _ I h) fun v s1 ⟨x,H1,I1,r1,q1⟩=>⟨x,σ,H1,I1,r1,q1⟩)
def LV:TS:=fun D _ H=>D.rt .non H
def JJ (c:TT) (t u:TS):TS:=fun D σ H=>c σ H fun b H1=>if b=true then t D σ H1 else u D σ H1
theorem J7 {c:Expr} {a b:List Stmt} {tc:TT} (hc:PT X c tc) (ha:PSs X a t) (hb:PSs X b u):PS X (.If c a b pos) (JJ tc t u):=by
 intro pins s σ H D I h
 refine wpAny_If (thn (hc pins s σ H _ I h) fun d s1 ⟨H1,I1,q1⟩=>?_)
 cases d with
 | true=>exact ha pins s1 σ H1 D I1 q1
 | false=>exact hb pins s1 σ H1 D I1 q1
def Cu:TS:=fun _ _ _=>False
theorem C4:PS X st Cu:=fun _ _ _ _ _ _ h=>h.elim
end
abbrev TG:=V→St→Hp→(St→Hp→Prop)→Prop
abbrev TGs:=List V→St→Hp→(St→Hp→Prop)→Prop
def PG (X:Cx) (target:Expr) (t:TG):Prop:=
 ∀ (pins:List (Addr×Obj)) (s:Shared) (σ:St) (H:Hp) (v:V) (u:Value) (Q:St→Hp→Prop),Inv X pins σ H s→RelV v u→t v σ H Q→
  wpAny (model X.prog X.w) X.A (assign target X.env u) (fun _ s'=>∃ σ' H',Inv X pins σ' H' s'∧Q σ' H') X.xe s
def PGs (X:Cx) (ts:List Expr) (t:TGs):Prop:=
 ∀ (pins:List (Addr×Obj)) (s:Shared) (σ:St) (H:Hp) (vs:List V) (us:List Value) (Q:St→Hp→Prop),Inv X pins σ H s→Vals vs us→t vs σ H Q→
  wpAny (model X.prog X.w) X.A (assignInOrder ((assignEach ts X.env).map (·.2)) us) (fun _ s'=>∃ σ' H',Inv X pins σ' H' s'∧Q σ' H') X.xe s
abbrev GY:=V→V→V→Hp→(Hp→Prop)→Prop
def Lc (X:Cx) (t:GY):Prop:=
 ∀ (pins:List (Addr×Obj)) (s:Shared) (σ:St) (H:Hp) (o i v:V) (ov iv u:Value) (Q:Hp→Prop),Inv X pins σ H s→RelV o ov→RelV i iv→RelV v u→t o i v H Q→
  wpAny (model X.prog X.w) X.A (setItem ov iv u) (fun _ s'=>∃ H',Inv X pins σ H' s'∧Q H') X.xe s
abbrev TIp:=V→V→Hp→VK→Prop
def PIp (X:Cx) (op:Operator) (t:TIp):Prop:=
 ∀ (pins:List (Addr×Obj)) (s:Shared) (σ:St) (H:Hp) (x y:V) (v u:Value) (Q:VK),Inv X pins σ H s→RelV x v→RelV y u→t x y H Q→
  wpAny (model X.prog X.w) X.A (inplaceOp op v u) (EP X pins σ Q) X.xe s
section
variable {X:Cx} {pos:Pos}
def nE (i:Nat):TG:=fun v σ H Q=>Q (σ.set i (some v)) H
theorem aA {i:Nat} {x:Str} (hN:X.N.Nodup) (hi:X.N[i]?=some x) (hx:Loc X.env.scope x) (hf:X.fn x=true∨X.env.scope.names.lookup x=some .local:=by first | exact .inl rfl | exact .inr rfl | assumption):PG X (.Name x pos) (nE i):=by
 intro pins s σ H v u Q I r h
 exact wpAny_assign_Name (lD I hN hi hx r (fun s' I'=>⟨_,H,I',h⟩) hf)
def Gw:TGs:=fun vs σ H Q=>vs=[]∧Q σ H
def ym (t:TG) (u:TGs):TGs:=fun vs σ H Q=>∃ v r,vs=v::r∧t v σ H fun σ' H'=>u r σ' H' Q
theorem b_:PGs X [] Gw:=by
 intro pins s σ H vs us Q I r h
 obtain⟨e,h⟩:=h
 subst e
 cases r
 exact assignInOrder_nil ⟨σ,H,I,h⟩
theorem av {e:Expr} {es:List Expr} {t:TG} {u:TGs} (h1:PG X e t) (h2:PGs X es u)
  (hs:(assignEach (e::es) X.env).map (·.2)=assign e X.env::(assignEach es X.env).map (·.2):=by rfl):PGs X (e::es) (ym t u):=by
 intro pins s σ H vs us Q I r h
 obtain⟨v,vr,e1,h⟩:=h
 subst e1
 cases r with
 | cons r rr=>
  rw[hs]
  refine assignInOrder_cons (thn (h1 pins s σ H _ _ _ I r h) fun _ s1 ⟨σ1,H1,I1,q1⟩=>?_)
  exact h2 pins s1 σ1 H1 _ _ Q I1 rr q1
def B4 (K:PySem.W.Frag) (n:Nat) (t:TGs):TG:=fun v σ H Q=>∃ a xs,v=.ref a∧SqT K H a xs∧xs.length=n∧t xs σ H Q
theorem vT {es:List Expr} {k:Nat} {t:TGs} {n:Nat} (hc:X.calm=true) (h:PGs X es t)
  (hn:(assignEach es X.env).length=n:=by rfl) (hst:(assignEach es X.env).findIdx? (·.1)=none:=by rfl):PG X (.Tuple es k pos) (B4 X.K n t):=by
 intro pins s σ H v u Q I r hw
 obtain⟨a,xs,e1,hq,hl,hw⟩:=hw
 subst e1
 cases r
 obtain⟨its,rv,ht,hz⟩:=I.tuple hq
 refine assign_Tuple_tuple (I.ok.hd hc) ht (by simp [hn,← hl,rv.length]) hst fun h' hx=>?_
 have I1:Inv X pins σ H { s with heap:=h' }:=I.kept (t':=s.toks) fun b o e=>hx b o (Nat.ne_of_lt (Heap.lt_size e)) e
 exact h pins _ σ H xs _ Q I1 (by simpa using rv) hw
def Gv (to ti:TE) (t:GY):TG:=fun v σ H Q=>to σ H fun o H1=>ti σ H1 fun i H2=>t o i v H2 fun H3=>Q σ H3
theorem Im {o i:Expr} {to ti:TE} {t:GY} (ho:PE X o to) (hi:PE X i ti) (hs:Lc X t)
  (ha:∀ v,assign (.Subscript o i pos) X.env v=(do
   let ov ← holding [v] (eval o X.env)
   let iv ← holding [v,ov] (eval i X.env)
   standAt pos
   holding [v,ov,iv] (setItem ov iv v)
   release [v,ov,iv] []):=by intro _;rfl):PG X (.Subscript o i pos) (Gv to ti t):=by
 intro pins s σ H v u Q I r h
 rw[ha]
 refine wpAny_bind (wpAny_holding (thn (ho pins s σ H _ I h) fun ov s1 ⟨x,H1,I1,r1,q1⟩=>?_))
 refine wpAny_bind (wpAny_holding (thn (hi pins s1 σ H1 _ I1 q1) fun iv s2 ⟨y,H2,I2,r2,q2⟩=>?_))
 refine wpAny_bind (wpAny_standAt (wpAny_bind (wpAny_holding (thn (hs pins s2 σ H2 x y v ov iv u _ I2 r1 r2 r q2) fun _ s3 ⟨H3,I3,q3⟩=>?_))))
 exact wpAny_release ⟨σ,H3,I3,q3⟩
def t6 (te:TE) (g:TG):TS:=fun D σ H=>te σ H fun x H1=>g x σ H1 D.nx
theorem C5 {tg e:Expr} {te:TE} {g:TG} (he:PE X e te) (hg:PG X tg g) (hs:swapsWithSole [tg] e pos.line X.env=pure false:=by rfl) (hw:swappedStores [tg] e X.env=pure none:=by rfl)
  (h1:(assignEach [tg] X.env).map (·.2)=[assign tg X.env]:=by rfl):PS X (.Assign [tg] e pos) (t6 te g):=by
 intro pins s σ H D I h
 refine wpAny_Assign_stores (thn (he pins s σ H _ I h) fun v s1 ⟨x,H1,I1,r1,q1⟩=>?_) hs hw
 rw[h1]
 exact thn (hg pins s1 σ H1 x v _ I1 r1 q1) fun _ s2 q=>q
theorem Ia {i:Nat} {x:Str} {e:Expr} {te:TE} {pos':Pos} (hN:X.N.Nodup) (hi:X.N[i]?=some x) (hx:Loc X.env.scope x) (he:PE X e te) (hs:swapsWith e (some (.Name x pos')) pos.line X.env=pure false:=by rfl) (hf:X.fn x=true∨X.env.scope.names.lookup x=some .local:=by first | exact .inl rfl | exact .inr rfl | assumption) :
  PS X (.Assign [.Name x pos'] e pos) (t6 te (nE i)):=by
 intro pins s σ H D I h
 refine wpAny_Assign_Name (thn (he pins s σ H _ I h) fun v s1 ⟨y,H1,I1,r1,q1⟩=>?_) hs
 exact lD I1 hN hi hx r1 (fun s2 I2=>⟨_,H1,I2,q1⟩) hf
def JH (i j:Nat) (ta:TA):TS:=fun D σ H=>ta σ H fun vs H1=>∃ v w,vs=[v,w]∧D.nx ((σ.set i (some v)).set j (some w)) H1
theorem Ic {i j:Nat} {x y:Str} {a b:Expr} {ta:TA} {px py pt:Pos} {kt k2 pt2} (hc:X.calm=true) (hN:X.N.Nodup) (hi:X.N[i]?=some x) (hj:X.N[j]?=some y) (hij:i≠j)
  (hx:X.env.scope.names.lookup x=some .local) (hy:X.env.scope.names.lookup y=some .local) (ha:PA X [a,b] ta)
  (hw:swappedStores [.Tuple [.Name x px,.Name y py] kt pt] (.Tuple [a,b] k2 pt2) X.env=pure (some [x,y]))
  (hs:swapsWithSole [.Tuple [.Name x px,.Name y py] kt pt] (.Tuple [a,b] k2 pt2) pos.line X.env=pure false:=by rfl) :
  PS X (.Assign [.Tuple [.Name x px,.Name y py] kt pt] (.Tuple [a,b] k2 pt2) pos) (JH i j ta):=by
 intro pins s σ H D I h
 rw[exec_Assign_arm]
 refine wpAny_bind (wpAny_standAt ?_)
 rw[hs]
 refine wpAny_bind (wpAny_pure ?_)
 rw[if_neg (by decide)]
 refine wpAny_bind (Tuple_ (thn (ha _ pins s σ H _ I h) fun us s1 ⟨vs,H1,I1,r1,q1⟩=>?_))
 obtain⟨v,w,e1,q1⟩:=q1
 subst e1
 obtain⟨u1,u2,rfl,rv,rw'⟩:∃ u1 u2,us=[u1,u2]∧RelV v u1∧RelV w u2:=by
  cases r1 with
  | cons p q=>
   cases q with
   | cons p' q'=>
    cases q'
    exact⟨_,_,rfl,p,p'⟩
 refine wpAny_newObj_type ?_ (by show 2≤sizeLine;decide)
 have I2:Inv X pins σ H1 { s1 with heap:=s1.heap.push { cls:=.type "tuple",data:=.seq [u1,u2].toArray } }:=I1.kept (t':=s1.toks) fun b o e=>Heap.get?_push_of_some _ e
 rw[hw]
 refine wpAny_bind (wpAny_pure ?_)
 show wpAny (model X.prog X.w) X.A (do rule "assign.swapped-stores";let items ← unpackItems (.ref s1.heap.objs.size) 2 none;assignInOrder [fun v=>bindName X.env y v,fun v=>bindName X.env x v] items.reverse;pure Flow.next) _ _ _
 refine wpAny_bind (wpAny_rule (wpAny_bind (unpackItems_tuple (items:=#[u1,u2]) (I.ok.hd hc) (IsTup.new s1.heap _) fun h' hx'=>?_)))
 have I3:=I2.kept (h':=h') (t':=s1.toks) fun b o e=>hx' b o (Nat.ne_of_lt (Heap.lt_size e)) e
 show wpAny _ _ (assignInOrder [fun v=>bindName X.env y v,fun v=>bindName X.env x v] [u2,u1] >>= fun _=>pure Flow.next) _ _ _
 refine wpAny_bind (assignInOrder_cons (wpAny_bindName (lD I3 hN hj (.inl hy) rw' (fun s2 I4=>?_) (.inr hy))))
 refine assignInOrder_cons (wpAny_bindName (lD I4 hN hi (.inl hx) rv (fun s3 I5=>assignInOrder_nil (wpAny_pure ?_)) (.inr hx)))
 rw[List.set_comm _ _ (Ne.symm hij)] at I5
 exact⟨_,H1,I5,q1⟩
def JM (i:Nat) (te:TE) (ti:TIp):TS:=fun D σ H=>∃ x,σ[i]?=some (some x)∧te σ H fun y H1=>ti x y H1 fun z H2=>D.nx (σ.set i (some z)) H2
theorem Ih {i:Nat} {x:Str} {e:Expr} {te:TE} {op:Operator} {ti:TIp} {pos':Pos} (hN:X.N.Nodup) (hi:X.N[i]?=some x) (hx:Loc X.env.scope x) (he:PE X e te) (ho:PIp X op ti) (hf:X.fn x=true∨X.env.scope.names.lookup x=some .local:=by first | exact .inl rfl | exact .inr rfl | assumption) :
  PS X (.AugAssign (.Name x pos') op e pos) (JM i te ti):=by
 intro pins s σ H D I h
 obtain⟨v,e1,h⟩:=h
 obtain⟨m,hn,hl⟩:=I.loc
 have vis:Vis X.env.scope x:=by rcases hx with k | k;exact .inl k;exact .inr (.inl k)
 obtain⟨u,r,l⟩:=hl i x v hi e1 vis
 refine wpAny_AugAssign_Name ?_
 have go:wpAny (model X.prog X.w) X.A (eval e X.env) (fun w s₂=>wpAny (model X.prog X.w) X.A (inplaceOp op u w) (fun r s₃=>wpAny (model X.prog X.w) X.A (storeName X.env x r) (fun _=>SP X pins D .next) X.xe s₃) X.xe s₂) X.xe s:=by
  refine thn (he pins s σ H _ I h) fun w s1 ⟨y,H1,I1,r1,q1⟩=>?_
  refine thn (ho pins s1 σ H1 v y u w _ I1 r r1 q1) fun z s2 ⟨zv,H2,I2,r2,q2⟩=>?_
  exact lD I2 hN hi hx r2 (fun s3 I3=>⟨_,H2,I3,q2⟩) hf
 rcases l with ⟨hk,hm⟩ | ⟨hk,c,hc,hcell⟩
 ·exact wpAny_loadName_local I.ok.kind hk hn hm go
 ·rcases hk with hk | hk
  ·exact wpAny_loadName_cell I.ok.kind hk hc hcell go
  ·rcases hx with k | k
   ·have:X.env.scope.names.lookup x=some .free:=hk
    rw[k] at this;cases this
   ·have:X.env.scope.names.lookup x=some .free:=hk
    rw[k] at this;cases this
def LZ (to ti te:TE) (tget:V→V→Hp→VK→Prop) (tip:TIp) (tset:GY):TS:=fun D σ H=>to σ H fun o H1=>ti σ H1 fun i H2=>tget o i H2 fun x H3=>te σ H3 fun y H4=>tip x y H4 fun z H5=>tset o i z H5 fun H6=>D.nx σ H6
def Mt (X:Cx) (t:V→V→Hp→VK→Prop):Prop:=
 ∀ (pins:List (Addr×Obj)) (s:Shared) (σ:St) (H:Hp) (o i:V) (ov iv:Value) (Q:VK),Inv X pins σ H s→RelV o ov→RelV i iv→t o i H Q→
  wpAny (model X.prog X.w) X.A (getItem ov iv) (EP X pins σ Q) X.xe s
def ipI (f:Int→Int→Int):TIp:=fun x y H Q=>∃ i j,x=.int i∧y=.int j∧Q (.int (f i j)) H
end
section
variable {X:Cx} {pos:Pos}
def Lj (c:TT) (tb:TS):TS:=fun D σ H=>∃ W:Nat→St→Hp→Prop,(∃ m,W m σ H)∧∀ m σ H,W m σ H→
 c σ H fun b H1=>if b=true then ∃ N:St→Hp→Prop,(∀ σ' H',N σ' H'→∃ m',m' < m∧W m' σ' H')∧tb { D with nx:=N,ct:=N,bk:=D.nx } σ H1 else D.nx σ H1
end
structure It where
 go:Nat→Hp→Prop
 yld:Nat→Hp→V→Hp→Prop
 stop:Nat→Hp→Prop
def gJ (X:Cx) (pins:List (Addr×Obj)) (H:Hp) (b:Addr):Prop:=
 H b=none∧b≠X.env.locals∧b∉X.fs∧(b∈X.ex∨X.s₀.heap.objs.size≤b)∧(∀ x c,X.env.cells.lookup x=some c→c≠b)∧∀ p∈X.pn++pins,p.1≠b
theorem Inv.p8 {X:Cx} {pins:List (Addr×Obj)} {σ:St} {H H':Hp} {s:Shared} {b:Addr} (I:Inv X pins σ H s) (hb:s.heap.objs.size≤b) (hn:H' b=none):gJ X pins H' b:=by
 refine⟨hn,Nat.ne_of_gt (Nat.lt_of_lt_of_le I.lt hb),I.Lx hb,.inr (Nat.le_trans I.sz hb),fun x c e z=>?_,fun p hp z=>?_⟩
 ·obtain⟨v,q⟩:=I.cell x c e
  exact absurd (Nat.lt_of_lt_of_le q.lt (by rw[z];exact hb)) (Nat.lt_irrefl _)
 ·exact absurd (Nat.lt_of_lt_of_le (Heap.lt_size (I.pin p hp).1) (by rw[z];exact hb)) (Nat.lt_irrefl _)
structure Turn (P:Program) (w:World) (K:PySem.W.Frag) (tg:Expr) (J:It) (fp:List Addr) (it:Addr) (tn:Nat→Heap→Prop):Prop where
 mem:it∈fp
 obj:∀ i h,tn i h→∀ b∈fp,∃ o,h.get? b=some o∧∀ v,o.data≠.cell v
 keep:∀ i h h',tn i h→(∀ b∈fp,∀ o,h.get? b=some o→h'.get? b=some o)→tn i h'
 item:∀ (X:Cx),X.prog=P→X.w=w→X.K=K→X.calm=true→∀ (i:Nat) (pins:List (Addr×Obj)) (s:Shared) (σ:St) (H:Hp) (E:Value→Shared→Prop),Inv X pins σ H s→(∀ b∈fp,gJ X pins H b)→tn i s.heap→J.go i H→
  wpAny (model P w) X.A (pyNext (.ref it)) (fun r s1=>∃ u,r=some u∧
   wpAny (model P w) X.A (letOwnedTupleGo tg (.ref it) u) (fun _ s2=>∃ x H',Inv X pins σ H' s2∧RelV x u∧J.yld i H x H'∧tn (i + 1) s2.heap∧∀ b∈fp,H' b=none) E s1) E s
 done:∀ (X:Cx),X.prog=P→X.w=w→X.K=K→X.calm=true→∀ (i:Nat) (pins:List (Addr×Obj)) (s:Shared) (σ:St) (H:Hp) (E:Value→Shared→Prop),Inv X pins σ H s→(∀ b∈fp,gJ X pins H b)→tn i s.heap→J.stop i H→
  wpAny (model P w) X.A (pyNext (.ref it)) (fun r s1=>r=none∧Inv X pins σ H s1) E s
 self:∀ (A:Around) (i:Nat) (s:Shared) (Q:Value→Shared→Prop) (E:Value→Shared→Prop),tn i s.heap→Q (.ref it) s→wpAny (model P w) A (pyIter (.ref it)) Q E s
abbrev TI:=St→Hp→(It→Hp→Prop)→Prop
def PIE (X:Cx) (pins:List (Addr×Obj)) (σ:St) (tg:Expr) (R:It→Hp→Prop) (itv:Value) (s2:Shared):Prop:=
 ∃ (it:Addr) (fp:List Addr) (tn:Nat→Heap→Prop) (J:It) (H':Hp),itv=.ref it∧Inv X pins σ H' s2∧Turn X.prog X.w X.K tg J fp it tn∧tn 0 s2.heap∧(∀ b∈fp,gJ X pins H' b)∧R J H'
def PI (X:Cx) (tg iter:Expr) (wi:TI):Prop:=
 ∀ (pins:List (Addr×Obj)) (s:Shared) (σ:St) (H:Hp) (R:It→Hp→Prop),Inv X pins σ H s→wi σ H R→
  wpAny (model X.prog X.w) X.A (eval iter X.env) (fun v s1=>wpAny (model X.prog X.w) X.A (pyIter v) (PIE X pins σ tg R) X.xe s1) X.xe s
theorem AU {M:Model} {A:Around} {E:Value→Shared→Prop} {s:Shared} {tg:Expr} {it:Addr} {u:Value} {o:Obj} {n:String} {vs:Array Value} {Q:Unit→Shared→Prop} (ho:s.heap.get? it=some o) (hc:o.cls=.type n) (hd:o.data=.fields vs)
  (hn:["enumerate","zip","dict_itemiterator","dict_reverseitemiterator","odict_iterator","itertools.zip_longest","itertools.pairwise"].contains n=false) (hQ:Q () s):wpAny M A (letOwnedTupleGo tg (.ref it) u) Q E s:=by
 unfold letOwnedTupleGo
 cases tg <;> first
  | exact wpAny_pure hQ
  | (cases u <;> first
    | exact wpAny_pure hQ
    | (refine wpAny_bind (wpAny_load ho ?_);rw[hc,hd];show wpAny M A (if (["enumerate","zip","dict_itemiterator","dict_reverseitemiterator","odict_iterator","itertools.zip_longest","itertools.pairwise"].contains n && vs[0]? == some (rawInt _))=true then _ else _) Q E s;rw[if_neg (by intro h;rw[hn,Bool.false_and] at h;cases h)];exact wpAny_pure hQ))
def Itl (K:PySem.W.Frag) (a:Addr):It:=
 ⟨fun i H=>∃ xs x,SqL K H a xs∧xs[i]?=some x,fun i H x H'=>H'=H∧∀ xs,SqL K H a xs→xs[i]?=some x,fun i H=>∃ xs,SqL K H a xs∧xs.length≤i⟩
def Itt (K:PySem.W.Frag) (a:Addr):It:=
 ⟨fun i H=>∃ xs x,SqT K H a xs∧xs[i]?=some x,fun i H x H'=>H'=H∧∀ xs,SqT K H a xs→xs[i]?=some x,fun i H=>∃ xs,SqT K H a xs∧xs.length≤i⟩
def Itr (lo:Int) (n:Nat):It:=⟨fun i _=>i < n,fun i H x H'=>H'=H∧x=.int (lo + i),fun i _=>n≤i⟩
theorem Bh {P:Program} {w:World} {K:PySem.W.Frag} {tg:Expr} (a it:Addr):Turn P w K tg (Itl K a) [it] it (fun i h=>h.IsListIter it a i) where
 mem:=by simp
 obj:=fun i h st b hb=>by
  have e:b=it:=by simpa using hb
  subst e
  obtain⟨o,e,c,d⟩:=st
  exact⟨o,e,fun v z=>by rw[d] at z;cases z⟩
 keep:=fun i h h' st k=>st.at fun o e=>k it (by simp) o e
 item:=by
  intro X hP hw hK hc i pins s σ H E I hf st hg
  subst hP hw hK
  obtain⟨xs,x,hq,hx⟩:=hg
  obtain⟨its,rv,p,hz⟩:=I.list hq
  obtain⟨u,hu,ru⟩:=rv.get hx
  obtain⟨f0,f1,f2,f3,f4,f5⟩:=hf it (by simp)
  refine wpAny_pyNext_list_item st p.isList (x:=u) (by simpa using hu) fun h' st' sb=>?_
  have I1:Inv X pins σ H { s with heap:=h' }:=I.turned (t':=s.toks) (fun b o hb e=>(sb.2 b hb).trans e) f0 f1 f3 f4 f5
  obtain⟨o,e,c,d⟩:=id st'
  exact⟨u,rfl,AU (s:={ s with heap:=h' }) e c d (by decide) ⟨x,H,I1,ru,⟨rfl,fun ys hy=>by rw[I.DP hy hq];exact hx⟩,st',fun b hb=>(hf b hb).1⟩⟩
 done:=by
  intro X hP hw hK hc i pins s σ H E I hf st hg
  subst hP hw hK
  obtain⟨xs,hq,hx⟩:=hg
  obtain⟨its,rv,p,hz⟩:=I.list hq
  obtain⟨f0,f1,f2,f3,f4,f5⟩:=hf it (by simp)
  have hl:=rv.length
  exact wpAny_pyNext_list_end (I.ok.hd hc) st p.isList (by simp;omega) fun h' eb=>⟨rfl,I.turned (t':=s.toks) (fun b o hb e=>eb b o hb e) f0 f1 f3 f4 f5⟩
 self:=fun _ _ _ _ _ st h=>wpAny_pyIter_listiter st h
theorem yR {P:Program} {w:World} {K:PySem.W.Frag} {tg:Expr} (it:Addr) (lo:Int) (n:Nat):Turn P w K tg (Itr lo n) [it] it (fun i h=>IsRangeIter h it (lo + (i:Nat) * 1) ((n:Int) - (i:Nat)) 1) where
 mem:=by simp
 obj:=fun i h st b hb=>by
  have e:b=it:=by simpa using hb
  subst e
  exact⟨_,st,fun v z=>by
   have z':Data.fields _=Data.cell v:=z
   cases z'⟩
 keep:=fun i h h' st k=>k it (by simp) _ st
 item:=by
  intro X hP hw hK hc i pins s σ H E I hf st hg
  subst hP hw hK
  obtain⟨f0,f1,f2,f3,f4,f5⟩:=hf it (by simp)
  have W:=Walks.range (prog:=X.prog) (w:=X.w) (I.ok.hd hc) it lo 1 n
  refine W.item i s _ _ hg st fun v h' tk hv st' kk=>?_
  obtain⟨t,rfl⟩:=hv
  have I1:Inv X pins σ H { s with heap:=h',toks:=tk }:=I.turned (fun b o hb e=>kk b o (by simpa using hb) e) f0 f1 f3 f4 f5
  refine⟨_,rfl,AU (s:={ s with heap:=h',toks:=tk }) (n:="range_iterator") st' rfl rfl (by decide) ⟨.int (lo + i),H,I1,⟨t,?_⟩,⟨rfl,rfl⟩,st',fun b hb=>(hf b hb).1⟩⟩
  rw[Int.mul_one]
 done:=by
  intro X hP hw hK hc i pins s σ H E I hf st hg
  subst hP hw hK
  obtain⟨f0,f1,f2,f3,f4,f5⟩:=hf it (by simp)
  exact wpAny_pyNext_range_end (I.ok.hd hc) st (by have:n≤i:=hg;omega) fun h' eb=>⟨rfl,I.turned (t':=s.toks) (fun b o hb e=>eb b o hb e) f0 f1 f3 f4 f5⟩
 self:=fun _ _ _ _ _ st h=>wpAny_pyIter_rangeiter st h
end L2
namespace L2
open PySem PySem.Spec PyProof.Rows
section
variable {X:Cx} {tg:Expr}
def Hm (K:PySem.W.Frag) (tl:TE):TI:=fun σ H R=>tl σ H fun x H1=>∃ a,x=.ref a∧(∃ xs,SqL K H1 a xs)∧R (Itl K a) H1
def Mo (K:PySem.W.Frag) (tl:TE):TI:=fun σ H R=>tl σ H fun x H1=>∃ a,x=.ref a∧(∃ xs,SqT K H1 a xs)∧R (Itt K a) H1
theorem FA {l:Expr} {tl:TE} (hl:PE X l tl):PI X tg l (Hm X.K tl):=by
 intro pins s σ H R I h
 refine thn (hl pins s σ H _ I h) fun v s1 ⟨x,H1,I1,r1,q1⟩=>?_
 obtain⟨a,e,⟨xs,hq⟩,q⟩:=q1
 subst e
 cases r1
 obtain⟨its,rv,p,hz⟩:=I1.list hq
 refine wpAny_pyIter_list p.isList ?_
 refine⟨s1.heap.objs.size,[s1.heap.objs.size],_,_,H1,rfl,I1.kept (t':=s1.toks) fun b o e=>Heap.get?_push_of_some _ e,Bh a _,⟨_,Heap.get?_push_size _ rfl,rfl,rfl⟩,fun b hb=>?_,q⟩
 have e:b=s1.heap.objs.size:=by simpa using hb
 subst e
 exact I1.p8 (Nat.le_refl _) (I1.hok.fresh (Nat.le_refl _))
theorem xM {pins:List (Addr×Obj)} {σ:St} {H:Hp} {s:Shared} {R:It→Hp→Prop} {E:Value→Shared→Prop} {lo hi:Int} {t u v:Tok} {tk:Nat} (I:Inv X pins σ H s) (h1:-(2 ^ 62)≤lo) (h2:lo < 2 ^ 62) (h3:-(2 ^ 62)≤hi) (h4:hi < 2 ^ 62)
  (q:R (Itr lo (hi - lo).toNat) H):wpAny (model X.prog X.w) X.A (pyIter (.ref s.heap.objs.size)) (PIE X pins σ tg R) E { s with heap:=s.heap.push { cls:=.type "range",data:=.fields #[.int lo t,.int hi u,.int 1 v] },toks:=tk }:=by
 refine wpAny_pyIter_range (IsRange.new ..) (small_one h1 h2 h3 h4) ?_
 have I1:Inv X pins σ H { s with heap:=s.heap.push { cls:=.type "range",data:=.fields #[.int lo t,.int hi u,.int 1 v] },toks:=tk }:=I.kept fun b o e=>Heap.get?_push_of_some _ e
 refine⟨(s.heap.push { cls:=.type "range",data:=.fields #[.int lo t,.int hi u,.int 1 v] }).objs.size,[(s.heap.push { cls:=.type "range",data:=.fields #[.int lo t,.int hi u,.int 1 v] }).objs.size],_,_,H,rfl,
  I1.kept (t':=tk) fun b o e=>Heap.get?_push_of_some _ e,yR _ lo (hi - lo).toNat,?_,fun b hb=>?_,q⟩
 ·have e1:lo + ((0:Nat):Int) * 1=lo:=by simp
  have e2:(((hi - lo).toNat:Nat):Int) - ((0:Nat):Int)=Builtin.Range.rangeSize lo hi 1:=by rw[rangeSize_one];split <;> omega
  show IsRangeIter _ _ (lo + ((0:Nat):Int) * 1) ((((hi - lo).toNat:Nat):Int) - ((0:Nat):Int)) 1
  rw[e1,e2]
  exact Heap.get?_push_size _ rfl
 ·have e:b=(s.heap.push { cls:=.type "range",data:=.fields #[.int lo t,.int hi u,.int 1 v] }).objs.size:=by simpa using hb
  subst e
  exact I1.p8 (Nat.le_refl _) (I1.hok.fresh (Nat.le_refl _))
def Hl (ta:TA):TI:=fun σ H R=>ta σ H fun vs H1=>∃ j:Int,vs=[.int j]∧-(2 ^ 62)≤j∧j < 2 ^ 62∧R (Itr 0 j.toNat) H1
def Hk (ta:TA):TI:=fun σ H R=>ta σ H fun vs H1=>∃ i j:Int,vs=[.int i,.int j]∧(-(2 ^ 62)≤i∧i < 2 ^ 62∧-(2 ^ 62)≤j∧j < 2 ^ 62)∧R (Itr i (j - i).toNat) H1
theorem Bz {a:Expr} {ta:TA} {p pos:Pos} (hg:Gl X "range") (hm:X.mg "range"=none) (ha:PA X [a] ta) (hs:starEach [a] X.env=[(false,eval a X.env)]:=by rfl):PI X tg (.Call (.Name "range" p) [a] [] pos) (Hl ta):=by
 intro pins s σ H R I h
 refine Call_ (g_ I hg hm boot_range (PyProof.Rows.callWith_type1 (thn (ha pos pins s σ H _ I h) fun us s1 ⟨vs,H1,I1,r1,q1⟩=>?_) hs rfl))
 obtain⟨j,e,q1,q2,q⟩:=q1
 subst e
 cases r1 with
 | cons r rr=>
  cases rr
  obtain⟨t,rfl⟩:=r
  exact call_range_1 (xM I1 (by omega) (by omega) q1 q2 (by simpa using q))
theorem By {a b:Expr} {ta:TA} {p pos:Pos} (hg:Gl X "range") (hm:X.mg "range"=none) (ha:PA X [a,b] ta) (hs:starEach [a,b] X.env=[(false,eval a X.env),(false,eval b X.env)]:=by rfl) (hs2:starEach [b] X.env=[(false,eval b X.env)]:=by rfl) :
  PI X tg (.Call (.Name "range" p) [a,b] [] pos) (Hk ta):=by
 intro pins s σ H R I h
 refine Call_ (g_ I hg hm boot_range (PyProof.Rows.callWith_type1 (thn (ha pos pins s σ H _ I h) fun us s1 ⟨vs,H1,I1,r1,q1⟩=>?_) (by rw[hs,hs2]) (by rw[hs2];rfl)))
 obtain⟨i,j,e,⟨q1,q2,q3,q4⟩,q⟩:=q1
 subst e
 cases r1 with
 | cons r rr=>
  cases rr with
  | cons r' rr=>
   cases rr
   obtain⟨t,rfl⟩:=r
   obtain⟨t',rfl⟩:=r'
   exact call_range_2 (xM I1 q1 q2 q3 q4 q)
def JK (wi:TI) (g:TG) (tb:TS):TS:=fun D σ H=>wi σ H fun J H1=>∃ W:Nat→Nat→St→Hp→Prop,(∃ m,W 0 m σ H1)∧∀ i m σ H,W i m σ H→
 (J.stop i H∧D.nx σ H)∨(J.go i H∧∃ N:St→Hp→Prop,(∀ σ' H',N σ' H'→∃ m',m' < m∧W (i + 1) m' σ' H')∧∀ x H',J.yld i H x H'→g x σ H' fun σ2 H2=>tb { D with nx:=N,ct:=N,bk:=D.nx } σ2 H2)
def sk (fp:List Addr) (h:Heap):List (Addr×Obj):=fp.filterMap fun b=>(h.get? b).map fun o=>(b,o)
theorem gy {fp:List Addr} {h:Heap} {b:Addr} {o:Obj} (hb:b∈fp) (e:h.get? b=some o):(b,o)∈sk fp h:=List.mem_filterMap.mpr ⟨b,hb,by rw[e];rfl⟩
theorem uQ {fp:List Addr} {h:Heap} {p:Addr×Obj} (hp:p∈sk fp h):p.1∈fp∧h.get? p.1=some p.2:=by
 obtain⟨b,hb,e⟩:=List.mem_filterMap.mp hp
 cases q:h.get? b with
 | none=>rw[q] at e;cases e
 | some o=>
  rw[q] at e
  have e':(b,o)=p:=Option.some.inj e
  subst e'
  exact⟨hb,q⟩
theorem Inv.pinned {pins:List (Addr×Obj)} {σ:St} {H:Hp} {s:Shared} {fp:List Addr} (I:Inv X pins σ H s) (hf:∀ b∈fp,gJ X pins H b) (ho:∀ b∈fp,∃ o,s.heap.get? b=some o∧∀ v,o.data≠.cell v):Inv X (pins++sk fp s.heap) σ H s:=
 I.j9 fun p hp=>(List.mem_append.mp hp).elim (fun z=>I.pin p (List.mem_append_right _ z)) fun z=>by
  obtain⟨hb,e⟩:=uQ z
  obtain⟨f0,f1,f2,_⟩:=hf p.1 hb
  obtain⟨o,e',d⟩:=ho p.1 hb
  rw[e] at e';cases e'
  exact⟨e,f0,f1,f2,d⟩
theorem Inv.rN {pins pl:List (Addr×Obj)} {σ:St} {H:Hp} {s:Shared} (I:Inv X (pins++pl) σ H s):Inv X pins σ H s:=I.j9 fun p hp=>I.pin p (List.mem_append_right _ (List.mem_append_left _ hp))
theorem Ie {iter:Expr} {body:List Stmt} {wi:TI} {g:TG} {tb:TS} {pos:Pos} (hp:PassesOwn (model X.prog X.w) X.A X.env X.xe) (hc:X.calm=true) (hi:PI X tg iter wi) (hg:PG X tg g) (hb:PSs X body tb)
  (hs:∀ x,foldedSetIterable iter X.env x=pure x:=by intro _;rfl):PS X (.For tg iter body [] pos) (JK wi g tb):=by
 intro pins s σ H D I h
 refine wpAny_For (thn (hi pins s σ H _ I h) fun v s1 h1=>thn h1 fun itv s2 h2=>?_) hs
 obtain⟨it,fp,tn,J,H2,e,I2,T,st2,f2,W,⟨m0,w0⟩,turn⟩:=h2
 subst e
 have stat:∀ {H':Hp},(∀ b∈fp,H' b=none)→∀ b∈fp,gJ X pins H' b:=fun hn b hb=>⟨hn b hb,(f2 b hb).2⟩
 refine codeAny_forLoop_any (fun n s'=>∃ i σ' H',Inv X pins σ' H' s'∧tn i s'.heap∧(∀ b∈fp,H' b=none)∧W i n σ' H') ?_ m0 ⟨0,σ,H2,I2,st2,fun b hb=>(f2 b hb).1,w0⟩
 rintro n s3 ⟨i,σ3,H3,I3,st3,fr3,w3⟩
 rcases turn i n σ3 H3 w3 with ⟨stop,qn⟩ | ⟨go,N,hN,step⟩
 ·refine wpAny_passesOwn hp (thn (T.done X rfl rfl rfl hc i pins s3 σ3 H3 X.xe I3 (stat fr3) st3 stop) fun r s4 ⟨hr,I4⟩=>?_)
  subst hr
  exact wpAny_execs_nil ⟨σ3,H3,I4,qn⟩
 ·refine wpAny_passesOwn hp (thn (T.item X rfl rfl rfl hc i pins s3 σ3 H3 X.xe I3 (stat fr3) st3 go) fun r s4 ⟨u,hr,h4⟩=>?_)
  subst hr
  refine wpAny_passesOwn hp (thn h4 fun _ s5 ⟨x,H5,I5,r5,y5,st5,fr5⟩=>?_)
  have I5':=I5.pinned (stat fr5) (T.obj _ _ st5)
  refine wpAny_passesOwn hp (thn (hg _ s5 σ3 H5 x u _ I5' r5 (step x H5 y5)) fun _ s6 ⟨σ6,H6,I6,q6⟩=>?_)
  refine wpAny_passesOwn hp (thn (hb _ s6 σ6 H6 _ I6 q6) fun f s7 q7=>?_)
  have again:∀ {σ7:St} {H7:Hp},Inv X (pins++sk fp s5.heap) σ7 H7 s7→N σ7 H7→∃ m,m < n∧∃ i σ' H',Inv X pins σ' H' s7∧tn i s7.heap∧(∀ b∈fp,H' b=none)∧W i m σ' H':=fun {σ7 H7} I7 n7=>by
   obtain⟨m',hm,w7⟩:=hN σ7 H7 n7
   refine⟨m',hm,i + 1,σ7,H7,I7.rN,T.keep _ _ _ st5 fun b hb o e=>(I7.pin (b,o) (List.mem_append_right _ (List.mem_append_right _ (gy hb e)))).1,fun b hb=>?_,w7⟩
   obtain⟨o,e,d⟩:=T.obj _ _ st5 b hb
   exact(I7.pin (b,o) (List.mem_append_right _ (List.mem_append_right _ (gy hb e)))).2.1
  cases f with
  | next=>obtain⟨σ7,H7,I7,n7⟩:=q7;exact again I7 n7
  | cont=>obtain⟨σ7,H7,I7,n7⟩:=q7;exact again I7 n7
  | brk=>obtain⟨σ7,H7,I7,q7⟩:=q7;exact⟨σ7,H7,I7.rN,q7⟩
  | ret v=>obtain⟨x7,σ7,H7,I7,r7,q7⟩:=q7;exact⟨x7,σ7,H7,I7.rN,r7,q7⟩
end
end L2
namespace L2
open PySem PySem.Spec PyProof.Rows
abbrev R2:=V→V→Hp→VK→Prop
def OpR (X:Cx) (f:Value→Value→Sem Value) (r:R2):Prop:=
 ∀ (pins:List (Addr×Obj)) (s:Shared) (σ:St) (H:Hp) (x y:V) (v u:Value) (Q:VK),Inv X pins σ H s→RelV x v→RelV y u→r x y H Q→
  wpAny (model X.prog X.w) X.A (f v u) (EP X pins σ Q) X.xe s
def UnR (X:Cx) (f:Value→Sem Value) (r:V→Hp→VK→Prop):Prop:=
 ∀ (pins:List (Addr×Obj)) (s:Shared) (σ:St) (H:Hp) (x:V) (v:Value) (Q:VK),Inv X pins σ H s→RelV x v→r x H Q→
  wpAny (model X.prog X.w) X.A (f v) (EP X pins σ Q) X.xe s
def eR (X:Cx) (f:Value) (r:List V→Hp→VK→Prop):Prop:=
 ∀ (pins:List (Addr×Obj)) (s:Shared) (σ:St) (H:Hp) (xs:List V) (us:List Value) (Q:VK),Inv X pins σ H s→Vals xs us→r xs H Q→
  wpAny (model X.prog X.w) X.A (call f us) (EP X pins σ Q) X.xe s
def Ms (X:Cx) (r:V→Hp→(Bool→Hp→Prop)→Prop):Prop:=
 ∀ (pins:List (Addr×Obj)) (s:Shared) (σ:St) (H:Hp) (x:V) (v:Value) (Q:Bool→Hp→Prop),Inv X pins σ H s→RelV x v→r x H Q→
  wpAny (model X.prog X.w) X.A (truthy v) (TP X pins σ Q) X.xe s
def tOp (r:R2) (ta tb:TE):TE:=fun σ H Q=>ta σ H fun x H1=>tb σ H1 fun y H2=>r x y H2 Q
def tUn (r:V→Hp→VK→Prop) (ta:TE):TE:=fun σ H Q=>ta σ H fun x H1=>r x H1 Q
def rI (C:Int→Int→Prop) (g:Int→Int→V):R2:=fun x y H Q=>∃ i j,x=.int i∧y=.int j∧C i j∧Q (g i j) H
def rI0 (g:Int→Int→V):R2:=fun x y H Q=>∃ i j,x=.int i∧y=.int j∧Q (g i j) H
def rU (g:Int→V):V→Hp→VK→Prop:=fun x H Q=>∃ i,x=.int i∧Q (g i) H
section
variable {X:Cx} {a b c:Expr} {ta tb tc:TE} {pos:Pos}
theorem Js (ha:PE X a ta) (hb:PE X b tb) {pins:List (Addr×Obj)} {s:Shared} {σ:St} {H:Hp} {R:V→V→Hp→Prop} (I:Inv X pins σ H s)
  (h:ta σ H fun x H1=>tb σ H1 fun y H2=>R x y H2) {Q:Value→Shared→Prop} {f:Value→Value→Sem Value}
  (hf:∀ v u s2 x y H2,Inv X pins σ H2 s2→RelV x v→RelV y u→R x y H2→wpAny (model X.prog X.w) X.A (f v u) Q X.xe s2) :
  wpAny (model X.prog X.w) X.A (eval a X.env) (fun v s₁=>wpAny (model X.prog X.w) X.A (eval b X.env) (fun u s₂=>wpAny (model X.prog X.w) X.A (f v u) Q X.xe s₂) X.xe s₁) X.xe s:=by
 refine thn (ha pins s σ H _ I h) fun v s1 ⟨x,H1,I1,r1,q1⟩=>?_
 refine thn (hb pins s1 σ H1 _ I1 q1) fun u s2 ⟨y,H2,I2,r2,q2⟩=>?_
 exact hf v u s2 x y H2 I2 r1 r2 q2
theorem oJ {op:Operator} {r:R2} (ho:OpR X (binaryOp op) r) (ha:PE X a ta) (hb:PE X b tb):PE X (.BinOp a op b pos) (tOp r ta tb):=by
 intro pins s σ H Q I h
 exact wpAny_BinOp (Js ha hb I h fun v u s2 x y H2 I2 rx ry q=>ho pins s2 σ H2 x y v u Q I2 rx ry q)
theorem As {op:UnaryOp} {r:V→Hp→VK→Prop} (ho:UnR X (unaryOp op) r) (ha:PE X a ta):PE X (.UnaryOp op a pos) (tUn r ta):=by
 intro pins s σ H Q I h
 exact UnaryOp_ (thn (ha pins s σ H _ I h) fun v s1 ⟨x,H1,I1,r1,q1⟩=>ho pins s1 σ H1 x v Q I1 r1 q1)
theorem opI {f:Value→Value→Sem Value} {C:Int→Int→Prop} {g:Int→Int→Int}
  (rule:∀ (i j:Int) (t u:Tok) (s:Shared) (Q:Value→Shared→Prop) (E:Value→Shared→Prop),C i j→Q (.int (g i j) s.toks) { s with toks:=s.toks + 1 }→wpAny (model X.prog X.w) X.A (f (.int i t) (.int j u)) Q E s) :
  OpR X f (rI C fun i j=>.int (g i j)):=by
 intro pins s σ H x y v u Q I rx ry h
 obtain⟨i,j,rfl,rfl,hc,q⟩:=h
 obtain⟨t,rfl⟩:=rx
 obtain⟨t',rfl⟩:=ry
 exact rule i j t t' s _ _ hc ⟨.int (g i j),H,I.tok _,⟨_,rfl⟩,q⟩
theorem zh {f:Value→Value→Sem Value} {g:Int→Int→Int}
  (rule:∀ (i j:Int) (t u:Tok) (s:Shared) (Q:Value→Shared→Prop) (E:Value→Shared→Prop),Q (.int (g i j) s.toks) { s with toks:=s.toks + 1 }→wpAny (model X.prog X.w) X.A (f (.int i t) (.int j u)) Q E s) :
  OpR X f (rI0 fun i j=>.int (g i j)):=by
 intro pins s σ H x y v u Q I rx ry h
 obtain⟨i,j,rfl,rfl,q⟩:=h
 obtain⟨t,rfl⟩:=rx
 obtain⟨t',rfl⟩:=ry
 exact rule i j t t' s _ _ ⟨.int (g i j),H,I.tok _,⟨_,rfl⟩,q⟩
theorem IF {f:Value→Value→Sem Value} {g:Int→Int→Bool}
  (rule:∀ (i j:Int) (t u:Tok) (s:Shared) (Q:Value→Shared→Prop) (E:Value→Shared→Prop),Q (.bool (g i j)) s→wpAny (model X.prog X.w) X.A (f (.int i t) (.int j u)) Q E s) :
  OpR X f (rI0 fun i j=>.bl (g i j)):=by
 intro pins s σ H x y v u Q I rx ry h
 obtain⟨i,j,rfl,rfl,q⟩:=h
 obtain⟨t,rfl⟩:=rx
 obtain⟨t',rfl⟩:=ry
 exact rule i j t t' s _ _ ⟨.bl (g i j),H,I,rfl,q⟩
def JB (i j:Int):Prop:=0 < j∧j < 1073741824
def L_ (i j:Int):Prop:=j≠0∧j.natAbs < 1073741824
def EW (i j:Int):Prop:=0≤j∧j≤1000000∧i.natAbs < 2 ^ 64
def EX (i j:Int):Prop:=(-(2 ^ 64) < i∧i < 2 ^ 64)∨(-(2 ^ 64) < j∧j < 2 ^ 64)
theorem EX.ok {i j:Int} (h:EX i j):IntMulOk i j:=by
 rcases h with ⟨h1,h2⟩ | ⟨h1,h2⟩
 ·exact .of_left (intBits_le_64 h1 h2)
 ·exact .of_right (intBits_le_64 h1 h2)
theorem IE:OpR X (binaryOp .Add) (rI0 fun i j=>.int (i + j)):=zh fun _ _ _ _ _ _ _ q=>add_int q
theorem Iy:OpR X (binaryOp .Sub) (rI0 fun i j=>.int (i - j)):=zh fun _ _ _ _ _ _ _ q=>sub_int q
theorem IA:OpR X (binaryOp .Mult) (rI EX fun i j=>.int (i * j)):=opI fun _ _ _ _ _ _ _ hc q=>mul_int q hc.ok
theorem FX:OpR X (binaryOp .FloorDiv) (rI JB fun i j=>.int (i / j)):=opI fun i j _ _ _ _ _ hc q=>by
 have h1:(0:Int) < j:=hc.1
 have h2:j < 1073741824:=hc.2
 exact floordiv_int (by omega) (by rw[Int.fdiv_eq_ediv_of_nonneg i (by omega)];exact q) (.inl (PyProof.noPylong_small (by omega)))
theorem IB:OpR X (binaryOp .Mod) (rI (fun _ j=>0 < j) fun i j=>.int (i % j)):=opI fun i j _ _ _ _ _ hc q=>by
 have h1:(0:Int) < j:=hc
 exact mod_int' (by omega) (by rw[Int.fmod_eq_emod_of_nonneg i (by omega)];exact q)
theorem Dr:OpR X (binaryOp .Pow) (rI EW fun i j=>.int (i ^ j.toNat)):=opI fun _ _ _ _ _ _ _ hc q=>pow_int_small hc.1 hc.2.1 hc.2.2 q
theorem unI {f:Value→Sem Value} {g:Int→Int}
  (rule:∀ (i:Int) (t:Tok) (s:Shared) (Q:Value→Shared→Prop) (E:Value→Shared→Prop),Q (.int (g i) s.toks) { s with toks:=s.toks + 1 }→wpAny (model X.prog X.w) X.A (f (.int i t)) Q E s) :
  UnR X f (rU fun i=>.int (g i)):=by
 intro pins s σ H x v Q I rx h
 obtain⟨i,rfl,q⟩:=h
 obtain⟨t,rfl⟩:=rx
 exact rule i t s _ _ ⟨.int (g i),H,I.tok _,⟨_,rfl⟩,q⟩
theorem vp:UnR X (unaryOp .USub) (rU fun i=>.int (-i)):=unI fun _ _ _ _ _ q=>neg_int q
end
def JT:V→V→Bool
 | .non,.non=>true | .non,.int _=>true | .int _,.non=>true | .non,.bl _=>true | .bl _,.non=>true | .non,.str _=>true | .str _,.non=>true
 | .int _,.int _=>true | .bl _,.bl _=>true | .str _,.str _=>true | .byt _,.byt _=>true
 | .int _,.str _=>true | .str _,.int _=>true | .bl _,.str _=>true | .str _,.bl _=>true
 | _,_=>false
def rEq:R2:=fun x y H Q=>JT x y=true∧Q (.bl (decide (x=y))) H
def rNe:R2:=fun x y H Q=>JT x y=true∧Q (.bl (!decide (x=y))) H
section
variable {X:Cx} {a b c:Expr} {ta tb tc:TE} {pos:Pos}
theorem Ef {pins:List (Addr×Obj)} {σ:St} {H:Hp} {s:Shared} {Q:VK} {k k':Bool} (I:Inv X pins σ H s) (q:Q (.bl k) H) (e:k=k'):EP X pins σ Q (.bool k') s:=by
 subst e
 exact⟨.bl k,H,I,rfl,q⟩
theorem Kh:OpR X (compareOp .Lt) (rI0 fun i j=>.bl (decide (i < j))):=IF fun _ _ _ _ _ _ _ q=>lt_int q
theorem Ki:OpR X (compareOp .LtE) (rI0 fun i j=>.bl (decide (i≤j))):=IF fun _ _ _ _ _ _ _ q=>le_int q
theorem Kj:OpR X (compareOp .Gt) (rI0 fun i j=>.bl (decide (j < i))):=IF fun _ _ _ _ _ _ _ q=>gt_int q
def isObj:HO→Bool
 | .lst _=>true
 | .ins _ _ _=>true
 | _=>false
theorem OpR.or {f:Value→Value→Sem Value} {r r':R2} (h:OpR X f r) (h':OpR X f r'):OpR X f (fun x y H Q=>r x y H Q∨r' x y H Q):=by
 intro pins s σ H x y v u Q I rx ry q
 rcases q with q | q
 ·exact h pins s σ H x y v u Q I rx ry q
 ·exact h' pins s σ H x y v u Q I rx ry q
theorem aR (b:Expr) {op:CmpOp} (h:op≠.In:=by decide) (h2:op≠.NotIn:=by decide):behindInMarks op b=false:=by
 have e1:(op == CmpOp.In)=false:=by cases op <;> first | rfl | exact absurd rfl h
 have e2:(op == CmpOp.NotIn)=false:=by cases op <;> first | rfl | exact absurd rfl h2
 cases b <;> simp [behindInMarks,e1,e2]
theorem FG {op:CmpOp} {r:R2} (ho:OpR X (compareOp op) r) (ha:PE X a ta) (hb:PE X b tb) (hm:behindInMarks op b=false):PE X (.Compare a [op] [b] pos) (tOp r ta tb):=by
 intro pins s σ H Q I h
 exact wpAny_Compare1 (Js ha hb I h fun v u s2 x y H2 I2 rx ry q=>ho pins s2 σ H2 x y v u Q I2 rx ry q) hm
def Ag (t:TE):TT:=fun σ H Q=>t σ H fun x H'=>∃ k,x=.bl k∧Q k H'
theorem Fp {op:CmpOp} {r:R2} (ho:OpR X (compareOp op) r) (ha:PE X a ta) (hb:PE X b tb) (hm:behindInMarks op b=false):PT X (.Compare a [op] [b] pos) (Ag (tOp r ta tb)):=by
 intro pins s σ H Q I h
 refine wpAny_isTrue_Compare1 (thn (ha pins s σ H _ I h) fun v s1 ⟨x,H1,I1,r1,q1⟩=>thn (hb pins s1 σ H1 _ I1 q1) fun u s2 ⟨y,H2,I2,r2,q2⟩=>
  thn (ho pins s2 σ H2 x y v u _ I2 r1 r2 q2) fun c s3 ⟨z,H3,I3,r3,k,e,q3⟩=>?_) hm
 subst e
 cases r3
 exact wpAny_truthy_bool ⟨H3,I3,q3⟩
def rQ (r r':R2) (ta tb tc:TE):TE:=fun σ H Q=>ta σ H fun x H1=>tb σ H1 fun y H2=>r x y H2 fun z H3=>∃ k,z=.bl k∧
 (if k=true then tc σ H3 fun w' H4=>r' y w' H4 Q else Q (.bl false) H3)
theorem Dd {op op':CmpOp} {r r':R2} (ho:OpR X (compareOp op) r) (ho':OpR X (compareOp op') r') (ha:PE X a ta) (hb:PE X b tb) (hc:PE X c tc)
  (hm:lastMarks [op,op'] [b,c]=false:=by with_unfolding_all rfl):PE X (.Compare a [op,op'] [b,c] pos) (rQ r r' ta tb tc):=by
 intro pins s σ H Q I h
 refine Compare_chain (thn (ha pins s σ H _ I h) fun v s1 ⟨x,H1,I1,r1,q1⟩=>chain_link (thn (hb pins s1 σ H1 _ I1 q1) fun u s2 ⟨y,H2,I2,r2,q2⟩=>
  thn (ho pins s2 σ H2 x y v u _ I2 r1 r2 q2) fun d s3 ⟨z,H3,I3,r3,k,e,q3⟩=>?_)) hm
 subst e
 cases r3
 refine wpAny_truthy_bool ?_
 cases k with
 | false=>exact ite_ff ⟨.bl false,H3,I3,rfl,q3⟩
 | true=>exact ite_tt (chain_last (thn (hc pins s3 σ H3 _ I3 q3) fun w' s4 ⟨z',H4,I4,r4,q4⟩=>ho' pins s4 σ H4 y z' u w' Q I4 r2 r4 q4))
theorem C1 {op op':CmpOp} {r r':R2} (ho:OpR X (compareOp op) r) (ho':OpR X (compareOp op') r') (ha:PE X a ta) (hb:PE X b tb) (hc:PE X c tc)
  (hm:lastMarks [op,op'] [b,c]=false:=by with_unfolding_all rfl):PT X (.Compare a [op,op'] [b,c] pos) (Ag (rQ r r' ta tb tc)):=by
 intro pins s σ H Q I h
 refine isTrue_chain (thn (ha pins s σ H _ I h) fun v s1 ⟨x,H1,I1,r1,q1⟩=>test_link (thn (hb pins s1 σ H1 _ I1 q1) fun u s2 ⟨y,H2,I2,r2,q2⟩=>
  thn (ho pins s2 σ H2 x y v u _ I2 r1 r2 q2) fun d s3 ⟨z,H3,I3,r3,k,e,q3⟩=>?_)) hm
 subst e
 cases r3
 refine wpAny_truthy_bool ?_
 cases k with
 | false=>
  obtain⟨k',e',q'⟩:=q3
  cases e'
  exact ite_ff ⟨H3,I3,q'⟩
 | true=>
  refine ite_tt (test_last (thn (hc pins s3 σ H3 _ I3 q3) fun w' s4 ⟨z',H4,I4,r4,q4⟩=>thn (ho' pins s4 σ H4 y z' u w' _ I4 r2 r4 q4) fun d' s5 ⟨z2,H5,I5,r5,k2,e2,q5⟩=>?_))
  subst e2
  cases r5
  exact wpAny_truthy_bool ⟨H5,I5,q5⟩
def Mr (K:PySem.W.Frag) (x:V) (H:Hp) (k:Bool):Prop:=
 match x with
 | .non=>k=false
 | .bl b=>k=b
 | .int i=>k=(i != 0)
 | .str y=>y.length≤sizeLine∧k=((y.length:Int) != 0)
 | .byt y=>y.size≤sizeLine∧k=((y.size:Int) != 0)
 | .ref p=>(∃ xs,SqL K H p xs∧k=!xs.isEmpty)∨(∃ xs,SqT K H p xs∧k=!xs.isEmpty)∨∃ kvs,H p=some (.dK kvs)∧k=!kvs.isEmpty
 | _=>False
theorem nY:(sizeLine:Nat) < 2 ^ 63:=by rw[sizeLine_eq];decide
theorem zg:OpR X (binaryOp .Add) (fun x y H Q=>∃ i j,x=.str i∧y=.str j∧i.length + j.length≤sizeLine∧Q (.str (i++j)) H):=by
 intro pins s σ H x y v u Q I rx ry h
 obtain⟨i,j,rfl,rfl,hz,q⟩:=h
 obtain⟨t,rfl⟩:=rx
 obtain⟨t',rfl⟩:=ry
 exact add_str (fun t' tk=>⟨.str (i++j),H,I.tok _,⟨_,rfl⟩,q⟩) hz
def Lb (b:Expr):Prop:=∀ o i,subscripted b false o i=operate [o,i] (getItem o i)
theorem vals1 {x:V} {us:List Value} (r:Vals [x] us):∃ u,us=[u]∧RelV x u:=by
 cases r with
 | cons r1 r2=>cases r2;exact⟨_,rfl,r1⟩
theorem vals2 {x y:V} {us:List Value} (r:Vals [x,y] us):∃ u w',us=[u,w']∧RelV x u∧RelV y w':=by
 cases r with
 | cons r1 r2=>
  cases r2 with
  | cons r3 r4=>cases r4;exact⟨_,_,rfl,r1,r3⟩
theorem B8 (hc:X.calm=true):eR X (.builtin "max") (fun xs H Q=>∃ i j,xs=[.int i,.int j]∧Q (.int (if j > i then j else i)) H):=by
 intro pins s σ H xs us Q I r h
 obtain⟨i,j,rfl,q⟩:=h
 obtain⟨u,w',rfl,⟨t,rfl⟩,⟨t',rfl⟩⟩:=vals2 r
 refine max_two_ints (I.ok.hd hc) fun h' tk k=>⟨_,H,I.kept k,?_,q⟩
 by_cases hj:j > i
 ·rw[if_pos hj,if_pos hj];exact⟨_,rfl⟩
 ·rw[if_neg hj,if_neg hj];exact⟨_,rfl⟩
theorem B7 (hc:X.calm=true):eR X (.builtin "min") (fun xs H Q=>∃ i j,xs=[.int i,.int j]∧Q (.int (if j < i then j else i)) H):=by
 intro pins s σ H xs us Q I r h
 obtain⟨i,j,rfl,q⟩:=h
 obtain⟨u,w',rfl,⟨t,rfl⟩,⟨t',rfl⟩⟩:=vals2 r
 refine min_two_ints (I.ok.hd hc) fun h' tk k=>⟨_,H,I.kept k,?_,q⟩
 by_cases hj:j < i
 ·rw[if_pos hj,if_pos hj];exact⟨_,rfl⟩
 ·rw[if_neg hj,if_neg hj];exact⟨_,rfl⟩
theorem B9:eR X (.type "int") (fun xs H Q=>(∃ i,xs=[.int i]∧Q (.int i) H)∨∃ k,xs=[.bl k]∧Q (.int (if k then 1 else 0)) H):=by
 intro pins s σ H xs us Q I r h
 rcases h with ⟨i,rfl,q⟩ | ⟨k,rfl,q⟩
 ·obtain⟨u,rfl,t,rfl⟩:=vals1 r
  exact call_int_int ⟨.int i,H,I,⟨_,rfl⟩,q⟩
 ·obtain⟨u,rfl,r1⟩:=vals1 r
  cases r1
  exact call_int_bool ⟨.int (if k then 1 else 0),H,I.tok _,⟨_,rfl⟩,q⟩
def Mv (K:PySem.W.Frag) (x:V) (H:Hp) (n:Nat):Prop:=
 match x with
 | .str y=>y.length≤sizeLine∧n=y.length
 | .byt y=>y.size≤sizeLine∧n=y.size
 | .ref p=>(∃ xs,SqL K H p xs∧n=xs.length)∨∃ xs,SqT K H p xs∧n=xs.length
 | _=>False
end
end L2
namespace L2
open PySem PySem.Spec PyProof.Rows
structure z_ (h:Heap) (x dx C:Addr) (mA:Str→Option Value):Prop where
 obj:h.get? x=some (PySem.W.instObj C dx)
 ns:h.Ns1 dx mA
 ne:dx≠x
theorem BS {h:Heap} {dx:Addr} {mA:Str→Option Value} (n:h.Ns1 dx mA):∃ od,h.get? dx=some od∧∀ name,PySem.W.lookIn name od=some (mA name):=by
 obtain⟨o,es,ep,ho,hd,hk,_,hm⟩:=n
 refine⟨o,ho,fun name=>?_⟩
 have e:=hm name
 unfold nsFind findBy at e
 rw[← Array.find?_toList] at e
 unfold PySem.W.lookIn
 rw[hd]
 dsimp only
 split
 ·rename_i y q
  rw[q] at e
  exact congrArg some e
 ·rename_i q
  rw[q] at e
  have a:es.toList.any (·.refKey)=false:=by
   rw[List.any_eq_false]
   intro y hy
   obtain⟨z,t,hkey⟩:=hk y (Array.mem_toList_iff.mp hy)
   simp [DictEntry.refKey,hkey]
  have a':¬ es.toList.any (·.refKey)=true:=by rw[a];exact Bool.false_ne_true
  rw[if_neg a']
  exact congrArg some e
theorem z_.look {h:Heap} {x dx C:Addr} {mA:Str→Option Value} (I:z_ h x dx C mA):∃ od,PySem.W.InstAt h x (PySem.W.instObj C dx) C (some od)∧∀ name,PySem.W.lookIn name od=some (mA name):=
 let ⟨od,ho,hl⟩:=BS I.ns
 ⟨od,⟨I.obj,rfl,rfl,ho⟩,hl⟩
section
variable {prog:Program} {w:World} {A:Around} {E:Value→Shared→Prop} {s:Shared} {K:PySem.W.Frag} {x dx C f:Addr} {mA:Str→Option Value} {name:Str} {v:Value}
theorem get_map {expr:Bool} {Q:Value→Shared→Prop} (X:K.In s.heap) (I:z_ s.heap x dx C mA) (hg:PySem.W.plainGet K C name=true) (hh:PySem.W.hasDictIn K C=true)
  (ha:PySem.W.findIn K (.ref C) name=some none) (hv:mA name=some v) (hv':PySem.W.handedIn v=true) (h:Q v { s with toks:=s.toks + 1 }) :
  wpAny (model prog w) A (getAttr (.ref x) name expr) Q E s:=by
 obtain⟨od,J,hl⟩:=I.look
 exact PySem.W.get_value X J (PySem.W.plainGet_of hg).1 (PySem.W.findObj_own hh ha rfl (by rw[hl,hv])) hv' h
theorem Ed {pl:Sem Bool} {Q:Value×List Value→Shared→Prop} (X:K.In s.heap) (I:z_ s.heap x dx C mA) (hg:PySem.W.plainGet K C name=true)
  (hf:PySem.W.findIn K (.ref C) name=some (some (.ref f))) (ht:PySem.W.isFn K (.ref f)=true) (hv:mA name=none) (h:Q (.ref f,[.ref x]) s) :
  wpAny (model prog w) A (getMethod (.ref x) name pl) Q E s:=by
 obtain⟨od,J,hl⟩:=I.look
 exact PySem.W.method_fn X J (PySem.W.plainGet_of hg).1 (PySem.W.plainGet_of hg).2 hf (beq_iff_eq.mp ht) (by show (PySem.W.lookIn name od).map (·.isSome)=some false;rw[hl,hv];rfl) h
theorem Fc {ns:List Str} {Q:Unit→Shared→Prop} (X:K.In s.heap) (I:z_ s.heap x dx C mA)
  (hs:PySem.W.findIn K (.ref C) "__setattr__"=some (some (.builtin "object.__setattr__"))) (hp:PySem.W.plainOver K C=true) (ht:PySem.W.takerIn K C name=some none) (hh:PySem.W.hasDictIn K C=true)
  (hw:PySem.Within mA ns) (hsz:ns.length≤sizeLine)
  (h:∀ h',z_ h' x dx C (fun y=>if y=name then some v else mA y)→Heap.SameBut dx s.heap h'→Q () { s with heap:=h',toks:=s.toks + 2 }) :
  wpAny (model prog w) A (setAttr (.ref x) name v) Q E s:=by
 obtain⟨od,J,hl⟩:=I.look
 refine PySem.W.set_plain X J hs (PySem.W.osa_open (s:={ s with toks:=s.toks + 1 }) (r:=none) X J hp ht fun b=>?_)
 obtain⟨cd,hc,hd'⟩:=PySem.W.any_some hh
 have hx:s.heap.get? x=some ⟨.ref C,some dx,.plain,#[]⟩:=I.obj
 refine wpAny_bind (wpAny_pure (wpAny_bind (wpAny_bind (wpAny_loadPart hx (wpAny_bind (PySem.W.Looks.here (s:={ s with toks:=s.toks + 1 }) (PySem.W.looks_clsIn X hc) ?_))))))
 rw[hd']
 refine wpAny_pure (a:=some dx) (wpAny_bind (wpAny_pure (wpAny_bind ?_)))
 refine wpAny_nsSet1 (s:={ s with toks:=s.toks + 1 }) I.ns fun h' hn2 hs2=>?_
 obtain⟨oD,esD,epD,hoD,hdD,hcD⟩:=hn2.count (PySem.Within.cons name v hw)
 refine wpAny_bind (wpAny_lookBehind hoD (by rw[hdD];exact pastItsLine_dict (Nat.le_trans hcD (by rw[List.length_cons];omega))) ?_)
 exact wpAny_pure (h _ ⟨(hs2.2 _ (Ne.symm I.ne)).trans I.obj,hn2,I.ne⟩ hs2)
theorem DI {R:Result→Shared→Prop} {vs:List Value} {kw:List (Str×Value)} (X:K.In s.heap) (hm:PySem.W.makesIn K C=true)
  (hi:PySem.W.findIn K (.ref C) "__init__"=some (some (.ref f))) (hf:PySem.W.typeIn K (.ref f)=some (.type "function"))
  (h:codeAny (model prog w) (A.under (.builtin "type.__call__" ⟨.ref C::vs,kw⟩)) (.call (.ref f) ⟨.ref (s.heap.objs.size + 1)::vs,kw⟩) (PySem.W.InitBack (s.heap.objs.size + 1) R)
   { s with heap:=(s.heap.push PySem.W.emptyDict).push (PySem.W.instObj C s.heap.objs.size) }) :
  codeAny (model prog w) A (.call (.ref C) ⟨vs,kw⟩) R s:=by
 obtain⟨hh,g,d,t,os⟩:=s
 exact PySem.W.make_core (PySem.W.makes_of X hm) (PySem.W.looks_findIn X hi) (fun self=>PySem.W.bind_fn X self hf) (.inl rfl) h
theorem BN {R:Result→Shared→Prop} (X:K.In s.heap) (hm:PySem.W.makesIn K C=true)
  (hi:PySem.W.findIn K (.ref C) "__init__"=some (some (.builtin "object.__init__")))
  (hb:∀ self,PySem.W.Looks (model prog w) s.heap (bindSpecial (.builtin "object.__init__") self) (.builtin "object.__init__",[self]))
  (h:codeAny (model prog w) (A.under (.builtin "type.__call__" ⟨[.ref C],[]⟩)) (.call (.builtin "object.__init__") ⟨[.ref (s.heap.objs.size + 1)],[]⟩) (PySem.W.InitBack (s.heap.objs.size + 1) R)
   { s with heap:=(s.heap.push PySem.W.emptyDict).push (PySem.W.instObj C s.heap.objs.size) }) :
  codeAny (model prog w) A (.call (.ref C) ⟨[],[]⟩) R s:=by
 obtain⟨hh,g,d,t,os⟩:=s
 exact PySem.W.make_core (PySem.W.makes_of X hm) (PySem.W.looks_findIn X hi) hb (.inr ⟨rfl,rfl⟩) h
end
def kY (f:Str) (v:V):List (Str×V)→List (Str×V)
 | []=>[(f,v)]
 | (g,x)::r=>if g=f then (g,v)::r else (g,x)::kY f v r
theorem qC (f g:Str) (v:V):∀ fs:List (Str×V),(kY f v fs).lookup g=if g=f then some v else fs.lookup g
 | []=>by
  show List.lookup g [(f,v)]=_
  by_cases h:g=f
  ·have hb:(g == f)=true:=beq_iff_eq.mpr h
   simp only[List.lookup,hb,if_pos h]
  ·have hb:(g == f)=false:=beq_eq_false_iff_ne.mpr h
   simp only[List.lookup,hb,if_neg h]
 | (k,x)::r=>by
  have ih:=qC f g v r
  rw[show kY f v ((k,x)::r)=(if k=f then (k,v)::r else (k,x)::kY f v r) from rfl]
  by_cases hk:k=f
  ·rw[if_pos hk]
   by_cases h:g=k
   ·have hb:(g == k)=true:=beq_iff_eq.mpr h
    simp only[List.lookup,hb,if_pos (h.trans hk)]
   ·have hb:(g == k)=false:=beq_eq_false_iff_ne.mpr h
    simp only[List.lookup,hb,if_neg (fun e:g=f=>h (e.trans hk.symm))]
  ·rw[if_neg hk]
   by_cases h:g=k
   ·have hb:(g == k)=true:=beq_iff_eq.mpr h
    simp only[List.lookup,hb,if_neg (fun e:g=f=>hk (h.symm.trans e))]
   ·have hb:(g == k)=false:=beq_eq_false_iff_ne.mpr h
    simp only[List.lookup,hb]
    exact ih
theorem p4 (f:Str) (v:V):∀ fs:List (Str×V),f∈(kY f v fs).map (·.1)∧∀ g,g∈fs.map (·.1)→g∈(kY f v fs).map (·.1)
 | []=>⟨by simp [kY],fun g h=>by simp at h⟩
 | (k,x)::r=>by
  obtain⟨i1,i2⟩:=p4 f v r
  rw[show kY f v ((k,x)::r)=(if k=f then (k,v)::r else (k,x)::kY f v r) from rfl]
  by_cases hk:k=f
  ·rw[if_pos hk]
   subst hk
   exact⟨by simp,fun g h=>by simpa using h⟩
  ·rw[if_neg hk]
   refine⟨?_,fun g h=>?_⟩
   ·rw[List.map_cons]
    exact List.mem_cons_of_mem _ i1
   ·rw[List.map_cons] at h ⊢
    rcases List.mem_cons.mp h with e | e
    ·exact List.mem_cons.mpr (.inl e)
    ·exact List.mem_cons_of_mem _ (i2 g e)
theorem qD (f:Str) (v:V):∀ fs:List (Str×V),(kY f v fs).length≤fs.length + 1
 | []=>by simp [kY]
 | (k,x)::r=>by
  have ih:=qD f v r
  rw[show kY f v ((k,x)::r)=(if k=f then (k,v)::r else (k,x)::kY f v r) from rfl]
  by_cases hk:k=f
  ·rw[if_pos hk,List.length_cons,List.length_cons];omega
  ·rw[if_neg hk,List.length_cons,List.length_cons];omega
theorem pE.some_of {v:V} {o:Option Value} (r:pE (some v) o):∃ u,o=some u∧RelV v u:=by
 cases o with
 | none=>exact(show False from r).elim
 | some u=>exact⟨u,rfl,r⟩
theorem pE.none_of {o:Option Value} (r:pE none o):o=none:=by
 cases o with
 | none=>rfl
 | some u=>exact(show False from r).elim
theorem B2 {v:V} {u:Value} (r:RelV v u):PySem.W.handedIn u=true:=by
 cases v with
 | non=>cases (show u=Value.none from r);rfl
 | bl b=>cases (show u=Value.bool b from r);rfl
 | int i=>obtain⟨t,e⟩:=(show ∃ t,u=Value.int i t from r);cases e;rfl
 | str x=>obtain⟨t,e⟩:=(show ∃ t,u=Value.str x t from r);cases e;rfl
 | byt b=>obtain⟨t,e⟩:=(show ∃ t,u=Value.bytes b t from r);cases e;rfl
 | flt b=>obtain⟨t,e⟩:=(show ∃ t,u=Value.float b t from r);cases e;rfl
 | ref a=>cases (show u=Value.ref a from r);rfl
 | ty n=>cases (show u=Value.type n from r);rfl
section
variable {P:Program} {w:World} {H H':Hp} {h h':Heap} {a C dx:Addr} {fs fs':List (Str×V)}
theorem rH (hok:HOk P w H h) (e:H a=some (.ins C dx fs)):∃ mA,z_ h a dx C mA∧(∀ f,pE (fs.lookup f) (mA f))∧PySem.Within mA (fs.map (·.1))∧fs.length≤1000∧H dx=some (.own a):=by
 obtain⟨d,z,ne,ob,mA,n,r,q⟩:=(show dH P w H h a (.ins C dx fs) from hok a _ e)
 exact⟨mA,⟨ob,n,ne⟩,r,q,z,d⟩
end
structure Cls (K:PySem.W.Frag) (C:Addr):Prop where
 pg:PySem.W.plainGet K C Str.empty=true
 hd:PySem.W.hasDictIn K C=true
 po:PySem.W.plainOver K C=true
 sa:PySem.W.findIn K (.ref C) "__setattr__"=some (some (.builtin "object.__setattr__"))
theorem Cls.get {K:PySem.W.Frag} {C:Addr} (c:Cls K C) (f:Str):PySem.W.plainGet K C f=true:=c.pg
def gq (K:PySem.W.Frag) (C:Addr) (f:Str):Prop:=PySem.W.findIn K (.ref C) f=some none
theorem gq.JD {K:PySem.W.Frag} {C:Addr} {f:Str} (n:gq K C f):PySem.W.takerIn K C f=some none:=by
 unfold PySem.W.takerIn
 rw[show PySem.W.findIn K (.ref C) f=some none from n]
 rfl
structure Con (K:PySem.W.Frag) (C:Addr) (f:Str) (v:V) (u:Value):Prop where
 at_:PySem.W.findIn K (.ref C) f=some (some u)
 rel:RelV v u
 get:PySem.W.specialIn K u "__get__"=some none
 cp:PySem.W.copiedNames.contains f=false
structure Meth (K:PySem.W.Frag) (C:Addr) (m:Str) (f:Addr):Prop where
 at_:PySem.W.findIn K (.ref C) m=some (some (.ref f))
 fn:PySem.W.isFn K (.ref f)=true
 kp:PySem.W.keepIn K (.ref f)=true
section
variable {X:Cx} {pins:List (Addr×Obj)} {σ:St} {H:Hp} {s:Shared} {a C dx:Addr} {fs:List (Str×V)} {f:Str} {v:V} {A:Around} {E:Value→Shared→Prop}
theorem zM {b:Bool} {Q:Value→Shared→Prop} (I:Inv X pins σ H s) (e:H a=some (.ins C dx fs)) (c:Cls X.K C) (n:gq X.K C f) (l:fs.lookup f=some v)
  (h:∀ u s',Inv X pins σ H s'→RelV v u→Q u s'):wpAny (model X.prog X.w) A (getAttr (.ref a) f b) Q E s:=by
 obtain⟨mA,O,r,_,_,_⟩:=rH I.hok e
 obtain⟨u,hu,ru⟩:=pE.some_of (v:=v) (o:=mA f) (by rw[← l];exact r f)
 exact get_map I.kIn O (c.get f) c.hd n hu (B2 ru) (h u _ (I.tok _) ru)
theorem n0 {m:Str} {g:Addr} {pl:Sem Bool} {Q:Value×List Value→Shared→Prop} (I:Inv X pins σ H s) (e:H a=some (.ins C dx fs)) (c:Cls X.K C) (k:Meth X.K C m g) (l:fs.lookup m=none)
  (h:Q (.ref g,[.ref a]) s):wpAny (model X.prog X.w) A (getMethod (.ref a) m pl) Q E s:=by
 obtain⟨mA,O,r,_,_,_⟩:=rH I.hok e
 have hn:mA m=none:=pE.none_of (by rw[← l];exact r m)
 exact Ed I.kIn O (c.get m) k.at_ k.fn hn h
theorem yX {y:V} {u:Value} {Q:Unit→Shared→Prop} (I:Inv X pins σ H s) (e:H a=some (.ins C dx fs)) (c:Cls X.K C) (n:gq X.K C f) (hl:fs.length < 1000) (ry:RelV y u)
  (h:∀ s',Inv X pins σ (upd H a (.ins C dx (kY f y fs))) s'→Q () s'):wpAny (model X.prog X.w) A (setAttr (.ref a) f u) Q E s:=by
 obtain⟨mA,O,r,wi,_,ho⟩:=rH I.hok e
 have hz:(fs.map (·.1)).length≤sizeLine:=by rw[List.length_map,sizeLine_eq];omega
 refine Fc I.kIn O c.sa c.po n.JD c.hd wi hz fun h' O' sb=>h _ ?_
 have hd:∃ o,h'.get? dx=some o:=let ⟨o,_,_,e',_⟩:=O'.ns;⟨o,e'⟩
 refine I.write (x:=a) (e:=dx) (by rw[e];exact True.intro) (.inr ho) (fun b q hb z=>(sb.2 b hb).trans z) hd ?_
 refine⟨by rw[au O.ne];exact ho,?_,O.ne,O'.obj,_,O'.ns,fun g=>?_,fun g hg=>?_⟩
 ·have:=qD f y fs;omega
 ·show pE ((kY f y fs).lookup g) (if g=f then some u else mA g)
  rw[qC]
  by_cases q:g=f
  ·rw[if_pos q,if_pos q];exact ry
  ·rw[if_neg q,if_neg q];exact r g
 ·by_cases q:g=f
  ·rw[q];exact(p4 f y fs).1
  ·refine(p4 f y fs).2 g (wi g fun z=>hg ?_)
   show (if g=f then some u else mA g)=none
   rw[if_neg q];exact z
theorem Inv.made (I:Inv X pins σ H s):Inv X pins σ (upd (upd H s.heap.objs.size (.own (s.heap.objs.size + 1))) (s.heap.objs.size + 1) (.ins C s.heap.objs.size []))
  { s with heap:=(s.heap.push PySem.W.emptyDict).push (PySem.W.instObj C s.heap.objs.size) }:=by
 have e1:(s.heap.push PySem.W.emptyDict).get? s.heap.objs.size=some PySem.W.emptyDict:=Heap.get?_push_size s.heap rfl
 have e2:((s.heap.push PySem.W.emptyDict).push (PySem.W.instObj C s.heap.objs.size)).get? (s.heap.objs.size + 1)=some (PySem.W.instObj C s.heap.objs.size):=by
  have:=Heap.get?_push_size (s.heap.push PySem.W.emptyDict) (o:=PySem.W.instObj C s.heap.objs.size) rfl
  rwa [Heap.size_push] at this
 have e3:(s.heap.push PySem.W.emptyDict).Ns s.heap.objs.size (fun _=>none):=⟨PySem.W.emptyDict,#[],_,e1,rfl,(fun e he=>absurd he (by simp)),fun _=>rfl⟩
 have I1:=I.laid (a:=s.heap.objs.size) (o:=.own (s.heap.objs.size + 1)) (h':=s.heap.push PySem.W.emptyDict) (t':=s.toks) (fun b u q=>Heap.get?_push_of_some _ q) (Nat.le_refl _) ⟨_,e1⟩
 refine I1.laid (a:=s.heap.objs.size + 1) (o:=.ins C s.heap.objs.size []) (t':=s.toks) (fun b u q=>Heap.get?_push_of_some _ q) (Nat.le_of_eq (Heap.size_push _ _)) ?_
 have ne:s.heap.objs.size≠s.heap.objs.size + 1:=Nat.ne_of_lt (Nat.lt_succ_self _)
 refine⟨by rw[au ne,aN],Nat.zero_le _,ne,e2,fun _=>none,(Heap.Ns1.of_empty e3).at fun o q=>Heap.get?_push_of_some _ q,fun _=>True.intro,fun y hy=>absurd rfl hy⟩
theorem GL {prog:Program} {w:World} {env:Env} {e:Expr} {f:Str} {pos:Pos} {s:Shared} {Q:Value→Shared→Prop} (hb:attributeBase e f env (eval e env)=eval e env)
  (h:wpAny (model prog w) A (eval e env) (fun o s₁=>wpAny (model prog w) A (getAttr o f true) Q E s₁) E s):wpAny (model prog w) A (eval (.Attribute e f pos) env) Q E s:=
 Attribute_any_ h (by rw[arm_eval_Attribute,hb])
end
def JL (K:PySem.W.Frag) (ta:TE) (f:Str):TE:=fun σ H Q=>ta σ H fun x H1=>∃ a C dx fs v,x=.ref a∧H1 a=some (.ins C dx fs)∧Cls K C∧gq K C f∧fs.lookup f=some v∧Q v H1
def Mg (K:PySem.W.Frag) (ta:TE) (f:Str):TE:=fun σ H Q=>ta σ H fun x H1=>∃ a C dx fs v u,x=.ref a∧H1 a=some (.ins C dx fs)∧Cls K C∧Con K C f v u∧fs.lookup f=none∧Q v H1
def HR (K:PySem.W.Frag) (ta tv:TE) (f:Str):TS:=fun D σ H=>tv σ H fun y H1=>ta σ H1 fun x H2=>∃ a C dx fs,x=.ref a∧H2 a=some (.ins C dx fs)∧Cls K C∧gq K C f∧fs.length < 1000∧
 D.nx σ (upd H2 a (.ins C dx (kY f y fs)))
def LU (X:Cx) (op:Operator) (rd:V→V→Hp→VK→Prop):Prop:=
 ∀ (pins:List (Addr×Obj)) (s:Shared) (σ:St) (H:Hp) (x y:V) (u v:Value) (Q:VK),Inv X pins σ H s→RelV x u→RelV y v→rd x y H Q→wpAny (model X.prog X.w) X.A (inplaceOp op u v) (EP X pins σ Q) X.xe s
def Lh (K:PySem.W.Frag) (ta tv:TE) (rd:V→V→Hp→VK→Prop) (f:Str):TS:=fun D σ H=>ta σ H fun x H1=>∃ a C dx fs v,x=.ref a∧H1 a=some (.ins C dx fs)∧Cls K C∧gq K C f∧fs.lookup f=some v∧
 tv σ H1 fun y H2=>rd v y H2 fun z H3=>∃ dx' fs',H3 a=some (.ins C dx' fs')∧fs'.length < 1000∧D.nx σ (upd H3 a (.ins C dx' (kY f z fs')))
section
variable {X:Cx} {o e value:Expr} {f:Str} {pos pos' tpos:Pos} {ta tv:TE}
theorem Iq (he:PE X e ta) (hb:attributeBase e f X.env (eval e X.env)=eval e X.env):PE X (.Attribute e f pos) (JL X.K ta f):=by
 intro pins s σ H Q I h
 refine GL hb (thn (he pins s σ H _ I h) fun u s1 ⟨x,H1,I1,rx,a,C,dx,fs,v,ex,ea,c,n,l,q⟩=>?_)
 subst ex
 obtain rfl:u=Value.ref a:=rx
 exact zM I1 ea c n l fun u' s2 I2 ru=>⟨v,H1,I2,ru,q⟩
theorem Ig (ha:PE X o ta) (hv:PE X value tv) (hs:swapsWith value (some (.Attribute o f pos')) pos.line X.env=pure false):PS X (.Assign [.Attribute o f pos'] value pos) (HR X.K ta tv f):=by
 intro pins s σ H D I h
 refine plainObj_wpAny_Assign_Attribute (thn (hv pins s σ H _ I h) fun u s1 ⟨y,H1,I1,ry,q⟩=>thn (ha pins s1 σ H1 _ I1 q) fun ov s2 ⟨x,H2,I2,rx,a,C,dx,fs,ex,ea,c,n,l,q2⟩=>?_) hs
 subst ex
 obtain rfl:ov=Value.ref a:=rx
 exact yX I2 ea c n l ry fun s3 I3=>⟨σ,_,I3,q2⟩
def Bv:V→V→Hp→VK→Prop:=fun x y H Q=>∃ i j,x=.int i∧y=.int j∧Q (.int (i + j)) H
def Mi:V→V→Hp→VK→Prop:=fun x y H Q=>∃ i j,x=.int i∧y=.int j∧Q (.int (i - j)) H
theorem Je:LU X .Add Bv:=by
 rintro pins s σ H x y u v Q I rx ry ⟨i,j,rfl,rfl,q⟩
 obtain⟨t,rfl⟩:=(show ∃ t,u=Value.int i t from rx)
 obtain⟨t',rfl⟩:=(show ∃ t',v=Value.int j t' from ry)
 exact PyProof.Rows.iadd_int ⟨.int (i + j),H,I.tok _,⟨_,rfl⟩,q⟩
theorem Hc {pl:Sem Bool} {m:Str} {apos:Pos} {args:List Expr} {pins:List (Addr×Obj)} {s:Shared} {σ:St} {H:Hp} {Q:Value→Shared→Prop} {te:TE} (he:PE X e te) (I:Inv X pins σ H s)
  (h:te σ H fun x H1=>∃ a C dx fs g,x=.ref a∧H1 a=some (.ins C dx fs)∧Cls X.K C∧Meth X.K C m g∧fs.lookup m=none∧
   ∀ s1,Inv X pins σ H1 s1→wpAny (model X.prog X.w) X.A (callWith pos (.ref g) [.ref a] (backTo pos (starEach args X.env)) (backToKw pos (keywordEach [] X.env))) Q X.xe s1)
  (ht:eval (.Call (.Attribute e m apos) args [] pos) X.env=(do
   let ov ← eval e X.env
   standAt apos.atName
   let (f,first) ← holding [ov] (getMethod ov m pl)
   callWith pos f first (backTo pos (starEach args X.env)) (backToKw pos (keywordEach [] X.env)))) :
  wpAny (model X.prog X.w) X.A (eval (.Call (.Attribute e m apos) args [] pos) X.env) Q X.xe s:=by
 refine PySem.W.methodCall_KW (pl:=pl) (thn (he pins s σ H _ I h) fun u s1 ⟨x,H1,I1,rx,a,C,dx,fs,g,ex,ea,c,k,l,q⟩=>?_) ht
 subst ex
 obtain rfl:u=Value.ref a:=rx
 exact n0 I1 ea c k l (q s1 I1)
end
section
variable {X:Cx} {pins:List (Addr×Obj)} {σ:St} {H:Hp} {s:Shared} {A:Around} {E:Value→Shared→Prop} {Q:Value→Shared→Prop} {c:Value} {b:Bool}
inductive qk (K:PySem.W.Frag) (H:Hp):V→Value→Prop where
 | non:qk K H .non (.type "NoneType")
 | bl (x:Bool):qk K H (.bl x) (.type "bool")
 | int (i:Int):qk K H (.int i) (.type "int")
 | str (x:Str):qk K H (.str x) (.type "str")
 | flt (x:UInt64):qk K H (.flt x) (.type "float")
 | lst {a:Addr} {xs:List V} (e:H a=some (.lst xs)):qk K H (.ref a) (.type "list")
 | frz {a:Addr} {o:Obj} {xs:List V} (e:H a=some (.frz o (.lst xs))):qk K H (.ref a) (.type "list")
 | tup {a:Addr} {xs:List V} (e:H a=some (.tup xs)):qk K H (.ref a) (.type "tuple")
 | dK {a:Addr} {kvs:List (Key×V)} (e:H a=some (.dK kvs)):qk K H (.ref a) (.type "dict")
 | dT {a:Addr} {kvs:List (List Key×V)} (e:H a=some (.dT kvs)):qk K H (.ref a) (.type "dict")
 | ins {a C dx:Addr} {fs:List (Str×V)} (e:H a=some (.ins C dx fs)) (cl:Cls K C) (ha:PySem.W.findIn K (.ref C) "__class__"=some (some (.builtin "object.__class__")))
   (hn:PySem.W.specialIn K (.builtin "object.__class__") "__get__"=some (some (.builtin "getset_descriptor.__get__"))) (htk:PySem.W.takesIn K (.builtin "object.__class__")=some true)
   (hm:PySem.W.mroIn K C (.type "object")=some true):qk K H (.ref a) (.ref C)
theorem BY {x:V} {u t:Value} (I:Inv X pins σ H s) (rx:RelV x u) (ty:qk X.K H x t) (e:PySem.W.kitOne X.K t c=some b) (h:∀ tk,Q (.bool b) { s with toks:=tk }) :
  wpAny (model X.prog X.w) A (call (.builtin "isinstance") [u,c]) Q E s:=by
 cases ty with
 | non=>cases (show u=Value.none from rx);exact PySem.W.kia_one PySem.W.kitx_none I.kIn True.intro e (fun z=>nomatch z) h
 | bl y=>cases (show u=Value.bool y from rx);exact PySem.W.kia_one PySem.W.kitx_bool I.kIn True.intro e (fun z=>nomatch z) h
 | int i=>obtain⟨t,q⟩:=(show ∃ t,u=Value.int i t from rx);cases q;exact PySem.W.kia_one PySem.W.kitx_int I.kIn True.intro e (fun z=>nomatch z) h
 | str y=>obtain⟨t,q⟩:=(show ∃ t,u=Value.str y t from rx);cases q;exact PySem.W.kia_one PySem.W.kitx_str I.kIn True.intro e (fun z=>nomatch z) h
 | flt y=>obtain⟨t,q⟩:=(show ∃ t,u=Value.float y t from rx);cases q;exact PySem.W.kia_one PySem.W.kitx_float I.kIn True.intro e (fun z=>nomatch z) h
 | @lst a xs ea=>
  cases (show u=Value.ref a from rx)
  obtain⟨_,_,n,_,h1⟩:=(show dH X.prog X.w H s.heap a (.lst xs) from I.hok a _ ea)
  exact PySem.W.kia_one PySem.W.kitx_list I.kIn ⟨_,h1,rfl⟩ e (fun z=>nomatch z) h
 | @frz a ob xs ea=>
  cases (show u=Value.ref a from rx)
  obtain⟨_,_,_,n,_,h1⟩:=(show dH X.prog X.w H s.heap a (.frz ob (.lst xs)) from I.hok a _ ea)
  exact PySem.W.kia_one PySem.W.kitx_list I.kIn ⟨_,h1,rfl⟩ e (fun z=>nomatch z) h
 | @tup a xs ea=>
  cases (show u=Value.ref a from rx)
  obtain⟨_,_,_,p⟩:=(show dH X.prog X.w H s.heap a (.tup xs) from I.hok a _ ea)
  obtain⟨o,h1,h2,_⟩:=p
  exact PySem.W.kia_one PySem.W.kitx_tuple I.kIn ⟨o,h1,h2⟩ e (fun z=>nomatch z) h
 | @dK a kvs ea=>
  cases (show u=Value.ref a from rx)
  obtain⟨_,_,vs,_,p⟩:=(show dH X.prog X.w H s.heap a (.dK kvs) from I.hok a _ ea)
  obtain⟨o,es,ep,h1,h2,_⟩:=p
  exact PySem.W.kia_one PySem.W.kitx_dict I.kIn ⟨o,h1,h2.1⟩ e (fun z=>nomatch z) h
 | @dT a kvs ea=>
  cases (show u=Value.ref a from rx)
  obtain⟨_,_,xs,_,o,es,ep,h1,h2,_⟩:=(show dH X.prog X.w H s.heap a (.dT kvs) from I.hok a _ ea)
  exact PySem.W.kia_one PySem.W.kitx_dict I.kIn ⟨o,h1,h2.1⟩ e (fun z=>nomatch z) h
 | @ins a C dx fs ea cl ha hn htk hm=>
  cases (show u=Value.ref a from rx)
  obtain⟨mA,O,_⟩:=rH I.hok ea
  obtain⟨od,J,_⟩:=O.look
  exact PySem.W.kia_one (PySem.W.kitx_own (cl.get _) cl.hd ha hn htk hm) I.kIn J e (fun z=>nomatch z) h
end
end L2
namespace L2
open PySem PySem.Spec PyProof.Rows
structure eg (k:Nat) (A:Around):Prop where
 hd:A.handled=none
 dp:A.depth + 3 * k + 5 < recursionLimit
 un:A.units + 16 * k + 200 < cLine
 gd:A.guards=some []
theorem eg.mono {j k:Nat} {A:Around} (r:eg k A) (h:j≤k):eg j A:=⟨r.hd,by have:=r.dp;omega,by have:=r.un;omega,r.gd⟩
theorem eg.deeper {k:Nat} {A:Around} (r:eg (k + 1) A) (env:Env):eg k (A.deeper env):=
 ⟨r.hd,by have:=r.dp;show A.depth + 1 + 3 * k + 5 < _;omega,by have:=r.un;show A.units + 3 + 16 * k + 200 < _;omega,r.gd⟩
theorem zy {A:Around} {C:Addr} {us:List Value} {kw:List (Str×Value)}:(A.under (.builtin "type.__call__" ⟨.ref C::us,kw⟩)).depth=A.depth + 1:=by
 first | rfl | simp [Around.under,Code.weight,Code.isCreation,Code.isGuard,Code.isCaller,Code.frames,Code.isFrame,guardIds]
theorem zu {A:Around} {C:Addr} {us:List Value} {kw:List (Str×Value)}:(A.under (.builtin "type.__call__" ⟨.ref C::us,kw⟩)).units=A.units + 1:=by
 first | rfl | simp [Around.under,Code.cUnits,Code.frames,Code.isFrame]
theorem x8 {A:Around} {C:Addr} {us:List Value} {kw:List (Str×Value)}:(A.under (.builtin "type.__call__" ⟨.ref C::us,kw⟩)).guards=A.guards:=by
 first | rfl | simp [Around.under,pushGuards,Code.guards,Code.isGuard,guardIds] | (cases A;simp [Around.under,pushGuards,Code.guards,Code.isGuard,guardIds])
theorem eg.make {k:Nat} {A:Around} (r:eg (k + 1) A) (C:Addr) (us:List Value) (kw:List (Str×Value)):eg k (A.under (.builtin "type.__call__" ⟨.ref C::us,kw⟩)):=
 ⟨r.hd,by have:=r.dp;rw[zy];omega,by have:=r.un;rw[zu];omega,by have:=r.gd;rw[x8];exact this⟩
theorem eg.depth {k:Nat} {A:Around} (r:eg k A):A.depth < recursionLimit:=by have:=r.dp;omega
theorem eg.units {k:Nat} {A:Around} (r:eg k A):A.units + 64 < cLine:=by have:=r.un;omega
def lA:TA:=fun _ H Q=>Q [] H
def ip (ta:TE) (tr:TA):TA:=fun σ H Q=>ta σ H fun x H1=>tr σ H1 fun xs H2=>Q (x::xs) H2
section
variable {X:Cx} {e:Expr} {es:List Expr} {te:TE} {t:TA} {pos:Pos}
theorem el:PA X [] lA:=fun _ _ _ _ H Q I h=>Calls.spliced_nil ⟨[],H,I,.nil,h⟩
theorem bO (ha:PE X e te) (hr:PA X es t) (hs:starEach (e::es) X.env=(false,eval e X.env)::starEach es X.env:=by rfl):PA X (e::es) (ip te t):=by
 intro pos pins s σ H Q I h
 rw[hs]
 show wpAny _ _ (spliced ((false,eval e X.env)::backTo pos (starEach es X.env))) _ _ s
 refine Calls.spliced_cons (thn (ha pins s σ H _ I h) fun u s1 ⟨x,H1,I1,r1,q1⟩=>?_)
 exact thn (hr pos pins s1 σ H1 _ I1 q1) fun us s2 ⟨xs,H2,I2,r2,q2⟩=>⟨x::xs,H2,I2,.cons r1 r2,q2⟩
def HG (t:TA):TE:=fun σ H Q=>t σ H fun xs H1=>xs.length≤sizeLine∧∀ p,H1 p=none→Q (.ref p) (upd H1 p (.tup xs))
def HI (t:TA):TE:=fun σ H Q=>t σ H fun xs H1=>xs.length≤sizeLine∧∀ p,H1 p=none→Q (.ref p) (upd H1 p (.lst xs))
theorem vU {x1} (h:PA X es t):PE X (.Tuple es x1 pos) (HG t):=by
 intro pins s σ H Q I hq
 refine wpAny_Tuple_spliced (thn (h pos pins s σ H _ I hq) fun us s1 ⟨xs,H1,I1,r,z,q⟩=>⟨by rw[← r.length];exact z,?_⟩)
 have hf:H1 s1.heap.objs.size=none:=I1.hok.fresh (Nat.le_refl _)
 refine⟨.ref s1.heap.objs.size,upd H1 s1.heap.objs.size (.tup xs),I1.laid (t':=s1.toks) (fun b u e=>Heap.get?_push_of_some _ e) (Nat.le_refl _) ?_,rfl,q _ hf⟩
 exact⟨z,us,r,⟨_,Heap.get?_push_size _ rfl,rfl,_,rfl⟩⟩
theorem nQ (h:PA X es t):PE X (.List es pos) (HI t):=by
 intro pins s σ H Q I hq
 refine wpAny_List_spliced (thn (h pos pins s σ H _ I hq) fun us s1 ⟨xs,H1,I1,r,z,q⟩=>⟨by rw[← r.length];exact z,?_⟩)
 have hf:H1 s1.heap.objs.size=none:=I1.hok.fresh (Nat.le_refl _)
 refine⟨.ref s1.heap.objs.size,upd H1 s1.heap.objs.size (.lst xs),I1.laid (t':=s1.toks) (fun b u e=>Heap.get?_push_of_some _ e) (Nat.le_refl _) ?_,rfl,q _ hf⟩
 exact⟨z,us,0,r,Heap.get?_push_size _ rfl⟩
end
abbrev Sp:=List V→Hp→VK→XK→Prop
abbrev CXT:=List Env→Hp→Shared→XK→Value→Shared→Prop
structure Ab (P:Program) (w:World) (K:PySem.W.Frag) (mg:Str→Option Value) (base:Heap) (A:Around) (outer:List Env) (s:Shared) (H:Hp):Prop where
 frames:A.frames=some outer
 mod:Mod K mg base
 bs:∀ b o,base.get? b=some o→s.heap.get? b=some o∧H b=none
 bsz:base.objs.size≤s.heap.objs.size
 p7:s.heap.FunFrames base outer
 frf:∀ b∈frs outer,H b=none
 hok:HOk P w H s.heap
 bare:AllBare s.gens
def CE (outer:List Env) (P:Program) (w:World) (H:Hp) (s:Shared) (Q:VK) (u:Value) (s':Shared):Prop:=
 ∃ v H',s'.os=s.os∧AllBare s'.gens∧Un (frs outer) [] H H' s.heap s'.heap∧HOk P w H' s'.heap∧RelV v u∧Q v H'
def CR (CX:CXT) (outer:List Env) (P:Program) (w:World) (H:Hp) (s:Shared) (Q:VK) (E:XK) (r:Result) (s':Shared):Prop:=
 match r with
 | .ok (.ret u)=>CE outer P w H s Q u s'
 | .ok _=>False
 | .error e=>CX outer H s E e s'
structure aT (P:Program) (w:World) (K:PySem.W.Frag) (mg:Str→Option Value) (base:Heap) (CX:CXT) (k:Nat) (f:Addr) (fd:FuncData) (ps:List Str) (sp:Sp):Prop where
 len:∀ vs H Q E,sp vs H Q E→vs.length=ps.length
 run:∀ (A:Around) (outer:List Env) (s:Shared) (H:Hp) (args:Args) (us:List Value) (vs:List V) (Q:VK) (E:XK),eg k A→Ab P w K mg base A outer s H→BindsTo s fd args (ps.zip us)→Vals vs us→sp vs H Q E→
  codeAny (model P w) A (.call (.ref f) args) (CR CX outer P w H s Q E) s
theorem aT.imp {P:Program} {w:World} {K:PySem.W.Frag} {mg:Str→Option Value} {base:Heap} {CX:CXT} {k:Nat} {f:Addr} {fd:FuncData} {ps:List Str} {sp sp':Sp} (F:aT P w K mg base CX k f fd ps sp)
  (h:∀ vs H Q E,sp' vs H Q E→sp vs H Q E):aT P w K mg base CX k f fd ps sp':=
 ⟨fun vs H Q E q=>F.len vs H Q E (h _ _ _ _ q),fun A outer s H args us vs Q E hr he hb hv hs=>F.run A outer s H args us vs Q E hr he hb hv (h _ _ _ _ hs)⟩
theorem Ab.make {P:Program} {w:World} {K:PySem.W.Frag} {mg:Str→Option Value} {base:Heap} {A:Around} {outer:List Env} {s:Shared} {H:Hp} (e:Ab P w K mg base A outer s H) (C:Addr) (us:List Value) (kw:List (Str×Value)) :
  Ab P w K mg base (A.under (.builtin "type.__call__" ⟨.ref C::us,kw⟩)) outer s H:=⟨by first | exact e.frames | (simpa [Around.under,Code.envs,Code.isFrame,pushEnvs] using e.frames),e.mod,e.bs,e.bsz,e.p7,e.frf,e.hok,e.bare⟩
section
variable {X:Cx} {pins:List (Addr×Obj)} {σ:St} {H:Hp} {s s':Shared}
theorem Inv.KS (I:Inv X pins σ H s):Ab X.prog X.w X.K X.mg X.base X.A X.stack s H:=
 ⟨I.ok.frames,I.ok.mod,I.bs,Nat.le_trans I.ok.bsz I.sz,I.stack,I.Aj,I.hok,I.bare⟩
theorem Inv.after {Q:VK} {u:Value} (I:Inv X pins σ H s) (h:CE X.stack X.prog X.w H s Q u s'):EP X pins σ Q u s':=by
 obtain⟨v,H',os,bare,un,hok,r,q⟩:=h
 obtain⟨hh,g,d,t,os'⟩:=s'
 obtain rfl:os'=s.os:=os
 exact⟨v,H',I.call (h':=hh) (g':=g) (d':=d) (t':=t) (ch:=[]) un hok bare (fun b z=>absurd z (by simp)),r,q⟩
end
def rR (sp:Sp) (dvs:List V) (E:XK) (t:TA):TE:=fun σ H Q=>t σ H fun vs H1=>sp (vs++dvs) H1 Q E
def xt (C:Addr) (m:Str) (sp:Sp) (dvs:List V) (E:XK) (ta:TE) (t:TA):TE:=fun σ H Q=>ta σ H fun x H1=>∃ a dx fs,x=.ref a∧H1 a=some (.ins C dx fs)∧fs.lookup m=none∧
 t σ H1 fun vs H2=>sp (x::(vs++dvs)) H2 Q E
def Cv (C:Addr) (sp:Sp) (dvs:List V) (E:XK) (t:TA):TE:=fun σ H Q=>t σ H fun vs H1=>∀ x dx,H1 x=none→H1 dx=none→dx≠x→
 sp (.ref x::(vs++dvs)) (upd (upd H1 dx (.own x)) x (.ins C dx [])) (fun v H2=>v=.non∧Q (.ref x) H2) E
def Binds (K:PySem.W.Frag) (fd:FuncData) (ps:List Str) (ds:List Value):Prop:=
 ∀ (s:Shared) (us:List Value),K.In s.heap→(us++ds).length=ps.length→BindsTo s fd ⟨us,[]⟩ (ps.zip (us++ds))
theorem Binds.all {K:PySem.W.Frag} {fd:FuncData} {ps:List Str} (h:∀ us:List Value,us.length=ps.length→bindArgs fd ⟨us,[]⟩=pure (ps.zip us)):Binds K fd ps []:=fun s us _ hl=>by
 rw[List.append_nil] at hl ⊢
 exact .of_eq (h us hl)
def Passes (CX:CXT) (X:Cx) (E:XK):Prop:=∀ (pins:List (Addr×Obj)) (σ:St) (H:Hp) (s:Shared) (e:Value) (s':Shared),Inv X pins σ H s→CX X.stack H s E e s'→X.xe e s'
section
variable {X:Cx} {CX:CXT} {k:Nat} {f C:Addr} {fd:FuncData} {ps:List Str} {sp:Sp} {dvs:List V} {ds:List Value} {E:XK} {x m:Str} {p pos apos:Pos} {e o:Expr} {es:List Expr} {ta:TE} {t:TA}
theorem vL {pins:List (Addr×Obj)} {σ:St} {H:Hp} {s:Shared} {Q:VK} {us:List Value} {vs:List V} (F:aT X.prog X.w X.K X.mg X.base CX k f fd ps sp) (hr:eg k X.A) (hb:Binds X.K fd ps ds) (hd:Vals dvs ds) (hx:Passes CX X E)
  (I:Inv X pins σ H s) (r:Vals vs us) (h:sp (vs++dvs) H Q E):wpAny (model X.prog X.w) X.A (call (.ref f) us) (EP X pins σ Q) X.xe s:=by
 have r2:Vals (vs++dvs) (us++ds):=r.append hd
 have hl:(us++ds).length=ps.length:=by rw[← r2.length];exact F.len _ _ _ _ h
 refine wpAny_call (codeAny_mono (F.run X.A X.stack s H ⟨us,[]⟩ (us++ds) (vs++dvs) Q E hr I.KS (hb s us I.kIn hl) r2 h) fun r s' hq=>?_)
 cases r with
 | error e=>exact hx pins σ H s e s' I hq
 | ok fl=>
  cases fl with
  | ret u=>exact I.after hq
  | next=>exact False.elim hq
  | brk=>exact False.elim hq
  | cont=>exact False.elim hq
theorem Av (F:aT X.prog X.w X.K X.mg X.base CX k f fd ps sp) (hr:eg k X.A) (hg:Gl X x) (hm:X.mg x=some (.ref f)) (hk:PySem.W.keepIn X.K (.ref f)=true) (hb:Binds X.K fd ps ds) (hd:Vals dvs ds) (hx:Passes CX X E)
  (ha:PA X (e::es) t) (hdb:(x == ("__debug__":Str))=false:=by decide) (he:starEach (e::es) X.env=(false,eval e X.env)::starEach es X.env:=by rfl) (hpl:(backTo pos (starEach es X.env)).any (·.1)=false:=by rfl) :
  PE X (.Call (.Name x p) (e::es) [] pos) (rR sp dvs E t):=by
 intro pins s σ H Q I h
 refine wpAny_Call_Name_kw (pf I hg hm ?_ hdb)
 refine PySem.W.callWith_K (h₀:=X.base) I.ok.mod.kin hk (thn (ha pos pins s σ H _ I h) fun us s1 ⟨vs,H1,I1,r,q⟩=>⟨I1.kIn,?_⟩) he hpl
 exact vL F hr hb hd hx I1 r q
theorem Dg (F:aT X.prog X.w X.K X.mg X.base CX k f fd ps sp) (hr:eg k X.A) (hg:Gl X x) (hm:X.mg x=some (.ref f)) (hk:PySem.W.keepIn X.K (.ref f)=true) (hb:Binds X.K fd ps ds) (hd:Vals dvs ds) (hx:Passes CX X E)
  (hdb:(x == ("__debug__":Str))=false:=by decide):PE X (.Call (.Name x p) [] [] pos) (rR sp dvs E lA):=by
 intro pins s σ H Q I h
 refine wpAny_Call_Name_kw (pf I hg hm ?_ hdb)
 exact PySem.W.callWith_K0 I.kIn hk (vL (us:=[]) F hr hb hd hx I .nil h)
theorem FC {pl:Sem Bool} (he:PE X o ta) (c:Cls X.K C) (hm:Meth X.K C m f) (F:aT X.prog X.w X.K X.mg X.base CX k f fd ps sp) (hr:eg k X.A) (hb:Binds X.K fd ps ds) (hd:Vals dvs ds) (hx:Passes CX X E) (ha:PA X (e::es) t)
  (hst:starEach (e::es) X.env=(false,eval e X.env)::starEach es X.env:=by rfl) (hpl:(backTo pos (starEach es X.env)).any (·.1)=false:=by rfl)
  (ht:eval (.Call (.Attribute o m apos) (e::es) [] pos) X.env=(do
   let ov ← eval o X.env
   standAt apos.atName
   let (f,first) ← holding [ov] (getMethod ov m pl)
   callWith pos f first (backTo pos (starEach (e::es) X.env)) (backToKw pos (keywordEach [] X.env))):=by rfl) :
  PE X (.Call (.Attribute o m apos) (e::es) [] pos) (xt C m sp dvs E ta t):=by
 intro pins s σ H Q I h
 refine PySem.W.methodCall_KW (pl:=pl) (thn (he pins s σ H _ I h) fun u s1 ⟨x,H1,I1,rx,a,dx,fs,ex,ea,l,q⟩=>?_) ht
 subst ex
 obtain rfl:u=Value.ref a:=rx
 refine n0 I1 ea c hm l ?_
 refine PySem.W.callWith_K (first:=[.ref a]) (h₀:=X.base) I.ok.mod.kin hm.kp (thn (ha pos pins s1 σ H1 _ I1 q) fun us s2 ⟨vs,H2,I2,r,q2⟩=>⟨I2.kIn,?_⟩) hst hpl
 exact vL (us:=.ref a::us) (vs:=.ref a::vs) F hr hb hd hx I2 (.cons rfl r) q2
theorem C9 {pl:Sem Bool} (he:PE X o ta) (c:Cls X.K C) (hm:Meth X.K C m f) (F:aT X.prog X.w X.K X.mg X.base CX k f fd ps sp) (hr:eg k X.A) (hb:Binds X.K fd ps ds) (hd:Vals dvs ds) (hx:Passes CX X E)
  (ht:eval (.Call (.Attribute o m apos) [] [] pos) X.env=(do
   let ov ← eval o X.env
   standAt apos.atName
   let (f,first) ← holding [ov] (getMethod ov m pl)
   callWith pos f first (backTo pos (starEach [] X.env)) (backToKw pos (keywordEach [] X.env))):=by rfl) :
  PE X (.Call (.Attribute o m apos) [] [] pos) (xt C m sp dvs E ta lA):=by
 intro pins s σ H Q I h
 refine PySem.W.methodCall_KW (pl:=pl) (thn (he pins s σ H _ I h) fun u s1 ⟨x,H1,I1,rx,a,dx,fs,ex,ea,l,q⟩=>?_) ht
 subst ex
 obtain rfl:u=Value.ref a:=rx
 refine n0 I1 ea c hm l ?_
 exact PySem.W.callWith_K0 (first:=[.ref a]) I1.kIn hm.kp (vL (us:=[.ref a]) (vs:=[.ref a]) F hr hb hd hx I1 (.cons rfl .nil) q)
structure Mk (K:PySem.W.Frag) (C f:Addr):Prop where
 makes:PySem.W.makesIn K C=true
 init:PySem.W.findIn K (.ref C) "__init__"=some (some (.ref f))
 fn:PySem.W.isFn K (.ref f)=true
 kp:PySem.W.keepIn K (.ref C)=true
theorem CJ {pins:List (Addr×Obj)} {σ:St} {H:Hp} {s:Shared} {Q:VK} {us:List Value} {vs:List V} (M:Mk X.K C f) (F:aT X.prog X.w X.K X.mg X.base CX k f fd ps sp) (hr:eg (k + 1) X.A) (hb:Binds X.K fd ps ds) (hd:Vals dvs ds)
  (hx:Passes CX X E) (I:Inv X pins σ H s) (r:Vals vs us)
  (h:∀ x dx,H x=none→H dx=none→dx≠x→sp (.ref x::(vs++dvs)) (upd (upd H dx (.own x)) x (.ins C dx [])) (fun v H2=>v=.non∧Q (.ref x) H2) E) :
  wpAny (model X.prog X.w) X.A (call (.ref C) us) (EP X pins σ Q) X.xe s:=by
 have hq:=h (s.heap.objs.size + 1) s.heap.objs.size (I.hok.fresh (Nat.le_succ _)) (I.hok.fresh (Nat.le_refl _)) (Nat.ne_of_lt (Nat.lt_succ_self _))
 have I2:=Inv.made (C:=C) I
 have r2:Vals (V.ref (s.heap.objs.size + 1)::(vs++dvs)) (Value.ref (s.heap.objs.size + 1)::(us++ds)):=.cons rfl (r.append hd)
 have hl:(Value.ref (s.heap.objs.size + 1)::us++ds).length=ps.length:=by
  have e:=r2.length
  rw[F.len _ _ _ _ hq] at e
  exact e.symm
 refine wpAny_call (DI (f:=f) I.kIn M.makes M.init (beq_iff_eq.mp M.fn) (codeAny_mono (F.run _ X.stack _ _ ⟨Value.ref (s.heap.objs.size + 1)::us,[]⟩ (Value.ref (s.heap.objs.size + 1)::(us++ds)) _ _ E (hr.make C us [])
  (I2.KS.make C us []) (hb _ (Value.ref (s.heap.objs.size + 1)::us) I2.kIn hl) r2 hq) fun r s' hq'=>?_))
 cases r with
 | error e=>exact hx pins σ _ _ e s' I2 hq'
 | ok fl=>
  cases fl with
  | ret u=>
   obtain⟨v,H',I3,rv,ev,q3⟩:=I2.after hq'
   subst ev
   exact⟨rv,⟨V.ref (s.heap.objs.size + 1),H',I3,rfl,q3⟩⟩
  | next=>exact False.elim hq'
  | brk=>exact False.elim hq'
  | cont=>exact False.elim hq'
theorem FD (M:Mk X.K C f) (F:aT X.prog X.w X.K X.mg X.base CX k f fd ps sp) (hr:eg (k + 1) X.A) (hg:Gl X x) (hm:X.mg x=some (.ref C)) (hb:Binds X.K fd ps ds) (hd:Vals dvs ds) (hx:Passes CX X E)
  (ha:PA X (e::es) t) (hdb:(x == ("__debug__":Str))=false:=by decide) (he:starEach (e::es) X.env=(false,eval e X.env)::starEach es X.env:=by rfl) (hpl:(backTo pos (starEach es X.env)).any (·.1)=false:=by rfl) :
  PE X (.Call (.Name x p) (e::es) [] pos) (Cv C sp dvs E t):=by
 intro pins s σ H Q I h
 refine wpAny_Call_Name_kw (pf I hg hm ?_ hdb)
 refine PySem.W.callWith_K (h₀:=X.base) I.ok.mod.kin M.kp (thn (ha pos pins s σ H _ I h) fun us s1 ⟨vs,H1,I1,r,q⟩=>⟨I1.kIn,?_⟩) he hpl
 exact CJ M F hr hb hd hx I1 r q
end
def PK (X:Cx) (kws:List Keyword) (t:TA):Prop:=
 ∀ (pos:Pos) (pins:List (Addr×Obj)) (s:Shared) (σ:St) (H:Hp) (Q:List V→Hp→Prop),Inv X pins σ H s→t σ H Q→wpAny (model X.prog X.w) X.A (evalAll ((backToKw pos (keywordEach kws X.env)).map (·.2))) (AP X pins σ Q) X.xe s
section
variable {X:Cx} {CX:CXT} {k:Nat} {f C:Addr} {fd:FuncData} {ps ks:List Str} {sp:Sp} {E:XK} {x m:Str} {p pos apos kpos:Pos} {e o:Expr} {es:List Expr} {kws:List Keyword} {te ta:TE} {t tk:TA} {nm:Option Str}
structure LS (K:PySem.W.Frag) (fd:FuncData) (ps ks:List Str) (g:List Value→List Value→List Value) (gV:List V→List V→List V):Prop where
 to:∀ (s:Shared) (us ws:List Value),K.In s.heap→(g us ws).length=ps.length→BindsTo s fd ⟨us,ks.zip ws⟩ (ps.zip (g us ws))
 rel:∀ {vs:List V} {us:List Value} {zs:List V} {ws:List Value},Vals vs us→Vals zs ws→Vals (gV vs zs) (g us ws)
def Lp (sp:Sp) (gV:List V→List V→List V) (E:XK) (t tk:TA):TE:=fun σ H Q=>t σ H fun vs H1=>tk σ H1 fun zs H2=>sp (gV vs zs) H2 Q E
variable {g:List Value→List Value→List Value} {gV:List V→List V→List V}
end
structure ar (N P:List Str) (sc:Scope):Prop where
 kind:sc.kind=.function
 co:sc.isCoroutine=false
 gen:sc.isGenerator=false
 nd:N.Nodup
 pre:N.take P.length=P
 par:∀ x∈P,sc.names.lookup x=some .local∨sc.names.lookup x=some .cell
 nofree:∀ y∈sc.names,y.2≠.free
theorem vd {kindOf:Str→Option NameKind} {x:Str}:∀ {binds:List (Str×Value)} {m:Str→Option Value},(∀ v,(x,v)∉binds)→bindL kindOf binds m x=m x
 | [],_,_=>rfl
 | (n,v)::r,m,h=>by
  unfold bindL
  rw[vd fun w hw=>h w (List.mem_cons_of_mem _ hw)]
  split
  ·have:x≠n:=by rintro rfl;exact h v List.mem_cons_self
   simp [this]
  ·rfl
theorem vf {kindOf:Str→Option NameKind} {x:Str}:∀ {binds:List (Str×Value)} {m:Str→Option Value},(∀ v,(x,v)∉binds)→bindC kindOf binds m x=m x
 | [],_,_=>rfl
 | (n,v)::r,m,h=>by
  unfold bindC
  rw[vf fun w hw=>h w (List.mem_cons_of_mem _ hw)]
  split
  ·rfl
  ·have:x≠n:=by rintro rfl;exact h v List.mem_cons_self
   simp [this]
theorem ve {kindOf:Str→Option NameKind} {x:Str} {v:Value}:∀ {P:List Str} {vs:List Value} {i:Nat} {m:Str→Option Value},P.Nodup→P[i]?=some x→vs[i]?=some v→kindOf x=some .local→
  bindL kindOf (P.zip vs) m x=some v
 | [],_,_,_,_,h,_,_=>by simp at h
 | _::_,[],_,_,_,_,h,_=>by simp at h
 | p::P,w::vs,0,m,nd,h1,h2,hk=>by
  simp at h1 h2;subst h1;subst h2
  show bindL kindOf ((p,w)::P.zip vs) m p=_
  unfold bindL
  rw[vd fun v hv=>(List.nodup_cons.mp nd).1 (List.of_mem_zip hv).1,if_pos hk]
  simp
 | p::P,w::vs,i + 1,m,nd,h1,h2,hk=>by
  show bindL kindOf ((p,w)::P.zip vs) m x=_
  unfold bindL
  exact ve (i:=i) (List.nodup_cons.mp nd).2 (by simpa using h1) (by simpa using h2) hk
theorem vg {kindOf:Str→Option NameKind} {x:Str} {v:Value}:∀ {P:List Str} {vs:List Value} {i:Nat} {m:Str→Option Value},P.Nodup→P[i]?=some x→vs[i]?=some v→kindOf x≠some .local→
  bindC kindOf (P.zip vs) m x=some v
 | [],_,_,_,_,h,_,_=>by simp at h
 | _::_,[],_,_,_,_,h,_=>by simp at h
 | p::P,w::vs,0,m,nd,h1,h2,hk=>by
  simp at h1 h2;subst h1;subst h2
  show bindC kindOf ((p,w)::P.zip vs) m p=_
  unfold bindC
  rw[vf fun v hv=>(List.nodup_cons.mp nd).1 (List.of_mem_zip hv).1,if_neg hk]
  simp
 | p::P,w::vs,i + 1,m,nd,h1,h2,hk=>by
  show bindC kindOf ((p,w)::P.zip vs) m x=_
  unfold bindC
  exact vg (i:=i) (List.nodup_cons.mp nd).2 (by simpa using h1) (by simpa using h2) hk
def start (N:List Str) (vs:List V):St:=vs.map some++List.replicate (N.length - vs.length) none
def zX (CX:CXT) (P:Program) (w:World) (K:PySem.W.Frag) (mg:Str→Option Value) (base:Heap) (N:List Str) (qual:Str) (scope:Scope) (f:Addr) (cd:Value) (A:Around) (outer:List Env) (s:Shared) (H:Hp) (E:XK):Cx where
 prog:=P
 w:=w
 K:=K
 mg:=mg
 base:=base
 A:=A.deeper (envOfC qual scope s.heap.objs.size f cd)
 N:=N
 s₀:=s
 H₀:=H
 env:=envOfC qual scope s.heap.objs.size f cd
 outer:=outer
 stack:=envOfC qual scope s.heap.objs.size f cd::outer
 ex:=[]
 calm:=true
 fn:=fun _=>true
 pn:=[]
 xe:=fun e s'=>wpAny (model P w) (A.deeper (envOfC qual scope s.heap.objs.size f cd)) (leaving (envOfC qual scope s.heap.objs.size f cd) e) (fun _ s''=>CX outer H s E e s'') (fun e' s''=>CX outer H s E e' s'') s'
theorem yq {sc:Scope} {n:Nat} {x:Str} (h:sc.names.lookup x=some .cell):∃ c,(cellsFrom n sc.names []).lookup x=some c:=by
 have q:=PySem.W.cellsFrom_some sc.names n [] (.inl h)
 exact Option.isSome_iff_exists.mp q
theorem BZ {CX:CXT} {P:Program} {w:World} {K:PySem.W.Frag} {mg:Str→Option Value} {base:Heap} {N ps:List Str} {qual:Str} {scope:Scope} {f:Addr} {cd:Value} {A:Around} {outer:List Env} {s s1:Shared} {H:Hp} {E:XK} {us:List Value} {vs:List V}
  (S:ar N ps scope) (hd:A.handled=none) (e0:Ab P w K mg base A outer s H) (hl:vs.length=ps.length) (r:Vals vs us)
  (x:InCallC s s.heap.objs.size (bindL (envOfC qual scope s.heap.objs.size f cd).kindOf (ps.zip us) fun _=>none) (cellsFrom (s.heap.objs.size + 1) scope.names []) (bindC (envOfC qual scope s.heap.objs.size f cd).kindOf (ps.zip us) fun _=>none) s1) :
  Inv (zX CX P w K mg base N qual scope f cd A outer s H E) [] (start N vs) H s1:=by
 have hpl:ps.length≤N.length:=by have:=congrArg List.length S.pre;rw[List.length_take] at this;omega
 obtain⟨h1,tk,rfl,hk⟩:=x.done
 have noA:∀ b:Addr,b∉(zX CX P w K mg base N qual scope f cd A outer s H E).ex:=fun b z=>absurd (show b∈([]:List Addr) from z) (by simp)
 refine⟨⟨e0.mod,S.kind,rfl,rfl,Nat.le_refl _,fun y z c h1 h2=>?_,fun y hy=>?_,fun y c _ h=>?_,fun _=>hd,Around.frames_deeper e0.frames,.inr ⟨rfl,rfl⟩,fun b z=>absurd z (noA b),e0.bs,e0.bsz,fun b _ _=>noA b,fun b z=>absurd z (noA b),e0.p7,e0.frf⟩,
  rfl,e0.bare,Un.kept hk,⟨_,x.toInCall.ns,fun i y v h1 h2 h3=>?_⟩,fun y c h=>⟨_,x.cell y c h⟩,e0.hok.fresh (Nat.le_refl _),fun y c h=>?_,fun p hp=>absurd (show p∈([]:List (Addr×Obj)) from hp) (by simp),e0.hok.kept hk,?_⟩
 ·exact name_of_addr x.apart (PySem.mem_of_lookup h1) (PySem.mem_of_lookup h2)
 ·have hy:scope.names.lookup y=some .cell∨scope.names.lookup y=some .free:=hy
  rcases hy with hy | hy
  ·exact yq hy
  ·exact absurd rfl (S.nofree _ (PySem.mem_of_lookup hy))
 ·exact Nat.le_of_lt (x.above y c (PySem.mem_of_lookup h))
 ·have hi:i < vs.length:=by
   unfold start at h2
   by_cases hi:i < vs.length
   ·exact hi
   ·rw[List.getElem?_append_right (by simpa using hi)] at h2
    rw[List.getElem?_replicate] at h2
    split at h2 <;> cases h2
  have ha:vs[i]?=some v:=by
   unfold start at h2
   rw[List.getElem?_append_left (by simpa using hi),List.getElem?_map] at h2
   cases e:vs[i]? with
   | none=>rw[e] at h2;cases h2
   | some a=>rw[e] at h2;cases h2;rfl
  obtain⟨u,hu,rv⟩:=r.get ha
  have hp:ps[i]?=some y:=by
   rw[← S.pre,List.getElem?_take_of_lt (by omega)];exact h1
  have ndP:ps.Nodup:=by rw[← S.pre];exact S.nd.sublist (List.take_sublist _ _)
  refine⟨u,rv,?_⟩
  rcases S.par y (List.mem_of_getElem? hp) with k | k
  ·exact .inl ⟨k,ve ndP hp hu k⟩
  ·obtain⟨c,e⟩:=yq (n:=s.heap.objs.size + 1) k
   refine .inr ⟨.inl k,c,e,?_⟩
   have q:=x.cell y c e
   rw[vg ndP hp hu (by show scope.names.lookup y≠_;rw[k];decide)] at q
   exact q
 ·exact e0.hok.fresh (Nat.le_of_lt (x.above y c (PySem.mem_of_lookup h)))
 ·unfold start
  show _=N.length
  rw[List.length_append,List.length_map,List.length_replicate]
  omega
theorem KQ {CX:CXT} {P:Program} {w:World} {K:PySem.W.Frag} {mg:Str→Option Value} {base:Heap} {k:Nat} {f:Addr} {name qual:Str} {params:Arguments} {body:List Stmt} {scope:Scope} {dV kV doc pm cdv ct oc:Value} {an od:Option Addr}
  {osl:Array (Option Value)} {N ps:List Str} {sp:Sp} (lk:K.lookup f=some ⟨oc,od,.func (PySem.W.fnOf name qual params body scope dV kV doc pm an cdv ct),osl⟩) (hcd:PySem.W.codeIn K cdv qual=true) (S:ar N ps scope)
  (len:∀ vs H Q E,sp vs H Q E→vs.length=ps.length)
  (hbody:∀ (A:Around) (outer:List Env) (s:Shared) (H:Hp) (vs:List V) (Q:VK) (E:XK),eg k (A.deeper (envOfC qual scope s.heap.objs.size f cdv))→sp vs H Q E→
   ∃ t,PSs (zX CX P w K mg base N qual scope f cdv A outer s H E) body t∧t { nx:=fun _ H'=>Q .non H',rt:=Q } (start N vs) H) :
  aT P w K mg base CX (k + 1) f (PySem.W.fnOf name qual params body scope dV kV doc pm an cdv ct) ps sp:=by
 refine⟨len,fun A outer s H args us vs Q E hr e0 hb r hsp=>?_⟩
 have hl:=len _ _ _ _ hsp
 have KX:K.In s.heap:=e0.mod.kin.keeps fun b o e=>(e0.bs b o e).1
 have lim:s.heap.NoLimit:=e0.mod.nolimit.keeps fun b o e=>(e0.bs b o e).1
 have hkind:∀ y∈ps.zip us,scope.names.lookup y.1=some .local∨(scope.names.lookup y.1=some .cell∧((cellsFrom (s.heap.objs.size + 1) scope.names []).lookup y.1).isSome=true):=fun ⟨n,v⟩ hy=>by
  rcases S.par n (List.of_mem_zip hy).1 with q | q
  ·exact .inl q
  ·exact .inr ⟨q,PySem.W.cellsFrom_some _ _ _ (.inl q)⟩
 refine codeAny_call_function hr.depth (KX _ _ lk) rfl S.co S.gen rfl (PySem.W.codeRec_of KX hcd) (hb _ _ _ _ ?_)
 refine wpAny_newFunctionEnv_cells S.kind hkind fun env he s1 x=>?_
 subst he
 refine⟨lim.keeps x.toInCall.keep,codeAny_func ?_⟩
 obtain⟨t,ht,hq⟩:=hbody A outer s H vs Q E (hr.deeper _) hsp
 have I:Inv (zX CX P w K mg base N qual scope f cdv A outer s H E) [] (start N vs) H s1:=BZ S hr.hd e0 hl r x
 refine wpAny_mono (ht [] s1 (start N vs) H _ I hq) (fun fl s' hs=>?_) fun e s' hs=>hs
 have fin:∀ {σ':St} {H':Hp} {v:V} {u:Value},Inv (zX CX P w K mg base N qual scope f cdv A outer s H E) [] σ' H' s'→RelV v u→Q v H'→CE outer P w H s Q u s':=
  fun {σ' H' v u} J rv q=>⟨v,H',J.os,J.bare,J.base,J.hok,rv,q⟩
 cases fl with
 | ret u=>
  obtain⟨v,σ',H',J,rv,q⟩:=hs
  exact fin J rv q
 | next=>
  obtain⟨σ',H',J,q⟩:=hs
  exact fin (v:=V.non) (u:=Value.none) J rfl q
 | brk=>
  obtain⟨_,_,_,q⟩:=hs
  exact False.elim q
 | cont=>
  obtain⟨_,_,_,q⟩:=hs
  exact False.elim q
end L2
namespace L2
open PySem PySem.Spec PyProof.Rows
section
variable {X:Cx} {x:Str} {p pos:Pos} {e:Expr} {es:List Expr} {t:TA} {id T:String} {r:List V→Hp→VK→Prop}
def tCB (r:List V→Hp→VK→Prop) (t:TA):TE:=fun σ H Q=>t σ H fun vs H1=>r vs H1 Q
theorem De (hc:eR X (.builtin id) r) (hg:Gl X x) (hm:X.mg x=none) (hv:bootBuiltins x=some (.builtin id)) (ha:PA X (e::es) t) (hn:x≠"__name__":=by decide) (hdb:(x == ("__debug__":Str))=false:=by decide)
  (he:starEach (e::es) X.env=(false,eval e X.env)::starEach es X.env:=by rfl) (hpl:(backTo pos (starEach es X.env)).any (·.1)=false:=by rfl):PE X (.Call (.Name x p) (e::es) [] pos) (tCB r t):=by
 intro pins s σ H Q I h
 refine wpAny_Call_Name_kw (g_ I hg hm hv ?_ hn hdb)
 exact PyProof.Rows.callWith_builtin1 (thn (ha pos pins s σ H _ I h) fun us s1 ⟨vs,H1,I1,r1,q1⟩=>hc pins s1 σ H1 vs us Q I1 r1 q1) he hpl
theorem BC (hc:eR X (.type T) r) (hg:Gl X x) (hm:X.mg x=none) (hv:bootBuiltins x=some (.type T)) (ha:PA X (e::es) t) (hn:x≠"__name__":=by decide) (hdb:(x == ("__debug__":Str))=false:=by decide)
  (he:starEach (e::es) X.env=(false,eval e X.env)::starEach es X.env:=by rfl) (hpl:(backTo pos (starEach es X.env)).any (·.1)=false:=by rfl):PE X (.Call (.Name x p) (e::es) [] pos) (tCB r t):=by
 intro pins s σ H Q I h
 refine wpAny_Call_Name_kw (g_ I hg hm hv ?_ hn hdb)
 exact PyProof.Rows.callWith_type1 (thn (ha pos pins s σ H _ I h) fun us s1 ⟨vs,H1,I1,r1,q1⟩=>hc pins s1 σ H1 vs us Q I1 r1 q1) he hpl
end
end L2
namespace HT
open PySem PyProof.Rows
def lexLt:List Int→List Int→Bool
 | [],[]=>false
 | [],_::_=>true
 | _::_,[]=>false
 | x::xs,y::ys=>if x=y then lexLt xs ys else decide (x < y)
section
open PySem.SeqAt
open PySem.AutoSeq1 (wpAny_loadPart')
open PySem.MeetsSeq PySem.MeetsSeq2 PySem.MeetsSeq3
end
section
variable {prog:Program} {w:World} {A:Around} {E:Value→Shared→Prop} {s:Shared}
theorem GC {t b:Addr} {vs ws:List Value} {Q:Value→Shared→Prop} (ht:IsTup s.heap t vs.toArray) (hb:IsTup s.heap b ws.toArray) (hv:vs≠[])
  (h1:ws=[]→Q (.ref t) s) (h2:ws≠[]→Q (.ref s.heap.objs.size) { s with heap:=s.heap.push { cls:=.type "tuple",data:=.seq (vs++ws).toArray } })
  (hsz:vs.length + ws.length≤sizeLine):wpAny (model prog w) A (binaryOp .Add (.ref t) (.ref b)) Q E s:=by
 obtain⟨⟨cls,dd,data,sl⟩,ho,hc,n,hd⟩:=id ht
 obtain⟨⟨cls2,dd2,data2,sl2⟩,ho2,hc2,n2,hd2⟩:=id hb
 simp only at hc hd hc2 hd2
 subst hc hd hc2 hd2
 have e:vs.toArray++ws.toArray=(vs++ws).toArray:=by simp
 by_cases hw:ws=[]
 ·exact concat_meets ⟨_,ho,rfl⟩ ⟨_,ho2,rfl⟩ noFill_tuple_add seq_tuple_add PySem.F.slot_tuple_add PySem.F.entry_tuple_add (PySem.F.args_tuple_add_2 _ _)
   (tuple_addW1 t b vs.toArray ws.toArray n n2 dd dd2 sl sl2 (by simpa using hv) (by simp [hw])) ⟨ho,ho2,h1 hw⟩
 ·refine concat_meets ⟨_,ho,rfl⟩ ⟨_,ho2,rfl⟩ noFill_tuple_add seq_tuple_add PySem.F.slot_tuple_add PySem.F.entry_tuple_add (PySem.F.args_tuple_add_2 _ _)
   (tuple_addW2 t b vs.toArray ws.toArray n n2 dd dd2 sl sl2 (by simpa using hv) (by simpa using hw) (by rw[List.size_toArray,List.size_toArray];exact hsz)) ⟨ho,ho2,?_⟩
  rw[e]
  exact h2 hw
def sIx (n d:Nat):Option Int→Nat
 | none=>d
 | some v=>if v < 0 then (v + (n:Int)).toNat else min v.toNat n
theorem HQ (n d:Nat) (hd:d≤n) (o:Option Int):sIx n d o≤n:=by
 cases o with
 | none=>exact hd
 | some v=>
  show (if v < 0 then (v + (n:Int)).toNat else min v.toNat n)≤n
  by_cases hv:v < 0
  ·rw[if_pos hv];omega
  ·rw[if_neg hv];exact Nat.min_le_right _ _
theorem AZ (v:Int) (n d:Nat):(if v < 0 then max (v + (n:Int)) 0 else min v (n:Int))=((sIx n d (some v):Nat):Int):=by
 show (if v < 0 then max (v + (n:Int)) 0 else min v (n:Int))=(((if v < 0 then (v + (n:Int)).toNat else min v.toNat n):Nat):Int)
 by_cases hv:v < 0
 ·simp only[if_pos hv];omega
 ·simp only[if_neg hv];omega
theorem z9 (lo hi:Option Int) (n:Nat):Builtin.Slice.sliceAdjust lo hi 1 (n:Int)=(((sIx n 0 lo:Nat):Int),((sIx n n hi:Nat):Int)):=by
 have h1:¬ ((1:Int) < 0):=by omega
 unfold Builtin.Slice.sliceAdjust
 simp only[h1,if_false]
 refine Prod.ext ?_ ?_
 ·cases lo with
  | none=>rfl
  | some v=>exact AZ v n 0
 ·cases hi with
  | none=>rfl
  | some v=>exact AZ v n n
theorem y9 (i j:Nat):Builtin.Slice.slicePlaces (i:Int) (j:Int) 1=j - i:=by
 unfold Builtin.Slice.slicePlaces
 have h1:(1:Int) > 0:=by omega
 simp only[h1,if_true,Int.ediv_one]
 split <;> omega
theorem rS {v:Value} {o:Option Int} {Q:Option Int→Shared→Prop} (p:IsPart v o) (h:Q o s):wpAny (model prog w) A (Builtin.Slice.slicePartIndex v) Q E s:=by
 cases p with
 | none=>exact slicePart_none h
 | int i t=>exact slicePart_int h
theorem pO {sl:Addr} {vl vu:Value} {lo hi:Option Int} {n:Nat} {Q:Int×Int×Nat→Shared→Prop} (hs:s.heap.IsSliceOf sl vl vu .none) (pl:IsPart vl lo) (pu:IsPart vu hi)
  (h:Q (((sIx n 0 lo:Nat):Int),1,sIx n n hi - sIx n 0 lo) s):wpAny (model prog w) A (Builtin.Slice.sliceApplied (.ref sl) (pure (n:Int))) Q E s:=by
 obtain⟨os,hos,hcs,hds⟩:=id hs
 unfold Builtin.Slice.sliceApplied Builtin.Slice.sliceFields
 refine wpAny_bind (wpAny_bind (wpAny_field hos hds (x:=vl) rfl (wpAny_bind (wpAny_field hos hds (x:=vu) rfl (wpAny_bind (wpAny_field hos hds (x:=.none) rfl (wpAny_pure ?_)))))))
 refine wpAny_bind (slicePart_none ?_)
 show wpAny _ _ (if ((1:Int) == 0)=true then _ else _) _ _ s
 rw[if_neg (by decide)]
 refine wpAny_bind (rS pl (wpAny_bind (rS pu (wpAny_bind (wpAny_pure ?_)))))
 show wpAny _ _ (match Builtin.Slice.sliceAdjust lo hi 1 (n:Int) with | (lo,hi)=>pure (lo,(1:Int),Builtin.Slice.slicePlaces lo hi 1)) _ _ s
 rw[z9 lo hi n]
 show wpAny _ _ (pure (((sIx n 0 lo:Nat):Int),(1:Int),Builtin.Slice.slicePlaces ((sIx n 0 lo:Nat):Int) ((sIx n n hi:Nat):Int) 1)) _ _ s
 rw[y9]
 exact wpAny_pure h
theorem C7 (xs:Array Value) (i k:Nat):((List.range k).filterMap fun (m:Nat)=>xs[((i:Int) + (m:Int) * 1).toNat]?).toArray=((xs.toList.drop i).take k).toArray:=by
 have e:(fun (m:Nat)=>xs[((i:Int) + (m:Int) * 1).toNat]?)=fun m=>xs[i + m]?:=by
  funext m
  have:((i:Int) + (m:Int) * 1).toNat=i + m:=by omega
  rw[this]
 rw[e]
 have:=pick_run xs i k
 rw[List.filterMap_map] at this
 have e2:((fun x=>xs[x]?) ∘ fun x=>i + x)=fun m=>xs[i + m]?:=rfl
 rw[e2] at this
 rw[this]
theorem pj {t sl:Addr} {items:Array Value} {vl vu:Value} {lo hi:Option Int} {Q:Value→Shared→Prop} (ht:IsTup s.heap t items) (hs:s.heap.IsSliceOf sl vl vu .none) (pl:IsPart vl lo) (pu:IsPart vu hi)
  (hw:¬ (sIx items.size 0 lo=0∧sIx items.size items.size hi=items.size))
  (h:Q (.ref s.heap.objs.size) { s with heap:=s.heap.push { cls:=.type "tuple",data:=.seq ((items.toList.drop (sIx items.size 0 lo)).take (sIx items.size items.size hi - sIx items.size 0 lo)).toArray } })
  (hsz:items.size≤sizeLine):wpAny (model prog w) A (getItem (.ref t) (.ref sl)) Q E s:=by
 have htake:sizeOk (.seq ((items.toList.drop (sIx items.size 0 lo)).take (sIx items.size items.size hi - sIx items.size 0 lo)).toArray):=by
  show ((items.toList.drop (sIx items.size 0 lo)).take (sIx items.size items.size hi - sIx items.size 0 lo)).toArray.size≤sizeLine
  rw[List.size_toArray,List.length_take,List.length_drop,Array.length_toList]
  omega
 have hj:sIx items.size items.size hi≤items.size:=HQ _ _ (Nat.le_refl _) hi
 obtain⟨os,hos,hcs,hds⟩:=id hs
 have hTs:s.TypeIs (.ref sl) "slice":=⟨os,hos,hcs⟩
 unfold getItem
 try with_reducible refine wpAny_holding ?_
 first | refine wpAny_bind (wpAny_pure ?_) | skip
 refine wpAny_bind (wpAny_sequenceKey ht.typeIs (by decide) ?_)
 refine wpAny_bind (wpAny_callSpecial?_slot (name:=Str.ofString "__getitem__") ht.typeIs PyProof.Rows.slot_tuple_getitem
  (wpAny_call_entry PyProof.Rows.slot_tuple_getitem ht.typeIs entry_tuple_getitem ?_ (args_tuple_getitem _ _)))
 show wpAny _ _ (Builtin.Tuple.tupleItemsOf (.ref t) >>= _) _ _ s
 refine wpAny_bind (tupleItemsOf_ ht ?_)
 refine wpAny_bind (wpAny_typeOf hTs ?_)
 rw[if_pos (by decide)]
 refine wpAny_bind (pO hs pl pu ?_)
 have hno:¬ ((((sIx items.size 0 lo:Nat):Int) == 0 && (1:Int) == 1 && (sIx items.size items.size hi - sIx items.size 0 lo) == items.size)=true):=by
  intro q
  rw[Bool.and_eq_true,Bool.and_eq_true] at q
  have q1:((sIx items.size 0 lo:Nat):Int)=0:=eq_of_beq q.1.1
  have q2:sIx items.size items.size hi - sIx items.size 0 lo=items.size:=eq_of_beq q.2
  exact hw ⟨by omega,by omega⟩
 show wpAny _ _ (if (((sIx items.size 0 lo:Nat):Int) == 0 && (1:Int) == 1 && (sIx items.size items.size hi - sIx items.size 0 lo) == items.size)=true then _ else _) _ _ s
 rw[if_neg hno,C7]
 first
  | exact wpAny_bind (m:=Builtin.Tuple.tupleExact _) (wpAny_newObj_type (wpAny_pure ⟨_,rfl,wpAny_pure h⟩) htake)
  | exact wpAny_bind (m:=Builtin.Tuple.tupleExact _) (wpAny_newObj_type (wpAny_bind (wpAny_pure (wpAny_pure ⟨_,rfl,wpAny_pure h⟩))) htake)
  | exact wpAny_bind (wpAny_bind (m:=Builtin.Tuple.tupleExact _) (wpAny_newObj_type (wpAny_pure (wpAny_pure ⟨_,rfl,wpAny_pure h⟩)) htake))
  | exact wpAny_bind (wpAny_bind (m:=Builtin.Tuple.tupleExact _) (wpAny_newObj_type (wpAny_pure ⟨_,rfl,wpAny_pure h⟩) htake))
end
end HT
namespace L2
open PySem PySem.Spec PyProof.Rows
abbrev TO:=St→Hp→(Option Int→Hp→Prop)→Prop
def PO (X:Cx) (e:Option Expr) (t:TO):Prop:=
 ∀ (pins:List (Addr×Obj)) (s:Shared) (σ:St) (H:Hp) (Q:Option Int→Hp→Prop),Inv X pins σ H s→t σ H Q→
  wpAny (model X.prog X.w) X.A (evalPart e X.env) (fun u s'=>∃ o H',Inv X pins σ H' s'∧IsPart u o∧Q o H') X.xe s
def Ah:TO:=fun _ H Q=>Q none H
def G2 (t:TE):TO:=fun σ H Q=>t σ H fun x H1=>∃ i,x=.int i∧Q (some i) H1
section
variable {X:Cx} {e:Expr} {te:TE} {lo hi:Option Expr} {tl th:TO} {pos p2:Pos}
theorem Fy:PO X none Ah:=by
 intro pins s σ H Q I h
 rw[evalPart_none]
 exact wpAny_pure ⟨none,H,I,.none,h⟩
theorem Fx (h:PE X e te):PO X (some e) (G2 te):=by
 intro pins s σ H Q I hw
 rw[evalPart_some]
 refine thn (h pins s σ H _ I hw) fun u s1 ⟨x,H1,I1,r1,q1⟩=>?_
 obtain⟨i,rfl,q⟩:=q1
 obtain⟨t,rfl⟩:=r1
 exact⟨some i,H1,I1,.int i t,q⟩
def SlR (X:Cx) (r:V→Option Int→Option Int→Hp→VK→Prop):Prop:=
 ∀ (pins:List (Addr×Obj)) (s:Shared) (σ:St) (H:Hp) (x:V) (v vl vu:Value) (lo hi:Option Int) (sl:Addr) (Q:VK),Inv X pins σ H s→RelV x v→s.heap.IsSliceOf sl vl vu .none→IsPart vl lo→IsPart vu hi→r x lo hi H Q→
  ∃ T id,typeLookup (.type T) "__getitem__"=pure (some (.builtin id))∧s.TypeIs v T∧wpAny (model X.prog X.w) X.A (getItem v (.ref sl)) (EP X pins σ Q) X.xe s
def tSl (r:V→Option Int→Option Int→Hp→VK→Prop) (te:TE) (tl th:TO):TE:=fun σ H Q=>te σ H fun x H1=>tl σ H1 fun l H2=>th σ H2 fun u H3=>r x l u H3 Q
theorem so {r:V→Option Int→Option Int→Hp→VK→Prop} (hr:SlR X r) (he:PE X e te) (hl:PO X lo tl) (hu:PO X hi th):PE X (.Subscript e (.Slice lo hi none p2) pos) (tSl r te tl th):=by
 intro pins s σ H Q I h
 refine Subscript_ (thn (he pins s σ H _ I h) fun v s1 ⟨x,H1,I1,r1,q1⟩=>?_)
 refine wpAny_Slice (thn (hl pins s1 σ H1 _ I1 q1) fun vl s2 ⟨l,H2,I2,pl,q2⟩=>thn (hu pins s2 σ H2 _ I2 q2) fun vu s3 ⟨u,H3,I3,pu,q3⟩=>?_)
 rw[evalPart_none]
 refine wpAny_pure ?_
 have I4:Inv X pins σ H3 { s3 with heap:=s3.heap.push { cls:=.type "slice",data:=.fields #[vl,vu,.none] } }:=I3.kept (t':=s3.toks) fun b ob q=>Heap.get?_push_of_some _ q
 obtain⟨T,id,hT,ht,hg⟩:=hr pins { s3 with heap:=s3.heap.push { cls:=.type "slice",data:=.fields #[vl,vu,.none] } } σ H3 x v vl vu l u s3.heap.objs.size Q I4 r1 (Heap.IsSliceOf.new ..) pl pu q3
 show wpAny (model X.prog X.w) X.A (subscriptTail e (.Slice lo hi none p2) v (.ref s3.heap.objs.size)) (EP X pins σ Q) X.xe { s3 with heap:=s3.heap.push { cls:=.type "slice",data:=.fields #[vl,vu,.none] } }
 exact tail_any (ops:=[.ref s3.heap.objs.size,v]) ht hT hg (by with_unfolding_all rfl)
def yo (xs:List V) (lo hi:Option Int):List V:=(xs.drop (HT.sIx xs.length 0 lo)).take (HT.sIx xs.length xs.length hi - HT.sIx xs.length 0 lo)
theorem qE (xs:List V) (lo hi:Option Int):(yo xs lo hi).length≤xs.length:=by
 unfold yo
 rw[List.length_take,List.length_drop]
 omega
def JX (K:PySem.W.Frag):V→Option Int→Option Int→Hp→VK→Prop:=fun x lo hi H Q=>∃ a xs,x=.ref a∧SqT K H a xs∧
 ¬ (HT.sIx xs.length 0 lo=0∧HT.sIx xs.length xs.length hi=xs.length)∧∀ p,H p=none→Q (.ref p) (upd H p (.tup (yo xs lo hi)))
theorem HL:SlR X (JX X.K):=by
 intro pins s σ H x v vl vu lo hi sl Q I rx hs pl pu h
 obtain⟨a,xs,rfl,hx,hw,q⟩:=h
 cases rx
 obtain⟨its,r,ht,hz⟩:=I.tuple hx
 have hlen:its.toArray.size=xs.length:=by rw[List.size_toArray];exact r.length.symm
 refine⟨"tuple",_,PyProof.Rows.slot_tuple_getitem.lookup,ht.typeIs,?_⟩
 refine HT.pj ht hs pl pu (by rw[hlen];exact hw) ?_ (by rw[hlen];exact hz)
 rw[hlen]
 refine⟨.ref s.heap.objs.size,_,I.laid (t':=s.toks) (o:=.tup (yo xs lo hi)) (fun b ob q=>Heap.get?_push_of_some _ q) (Nat.le_refl _) ?_,rfl,q _ (I.hok.fresh (Nat.le_refl _))⟩
 exact⟨Nat.le_trans (qE xs lo hi) hz,_,(r.drop (HT.sIx xs.length 0 lo)).take (HT.sIx xs.length xs.length hi - HT.sIx xs.length 0 lo),IsTup.new _ _⟩
def Ml (K:PySem.W.Frag):R2:=fun x y H Q=>∃ a b ns ms,x=.ref a∧y=.ref b∧SqT K H a (ns.map V.int)∧SqT K H b (ms.map V.int)∧Q (.bl (HT.lexLt ns ms)) H
def CZ (K:PySem.W.Frag):R2:=fun x y H Q=>∃ a b xs ys,x=.ref a∧y=.ref b∧SqT K H a xs∧SqT K H b ys∧xs≠[]∧xs.length + ys.length≤sizeLine∧
 (ys=[]→Q (.ref a) H)∧(ys≠[]→∀ p,H p=none→Q (.ref p) (upd H p (.tup (xs++ys))))
theorem Vals.wb {xs:List V} {us:List Value} (r:Vals xs us):us=[]↔xs=[]:=by
 cases r with
 | nil=>simp
 | cons _ _=>simp
theorem FY:OpR X (binaryOp .Add) (CZ X.K):=by
 intro pins s σ H x y v u Q I rx ry h
 obtain⟨a,b,xs,ys,rfl,rfl,ha,hb,hx,hz,q1,q2⟩:=h
 cases rx
 cases ry
 obtain⟨its,r1,p1,_⟩:=I.tuple ha
 obtain⟨its2,r2,p2,_⟩:=I.tuple hb
 refine HT.GC p1 p2 (fun z=>hx (r1.wb.mp z)) (fun z=>⟨.ref a,H,I,rfl,q1 (r2.wb.mp z)⟩) (fun z=>?_) (by rw[← r1.length,← r2.length];exact hz)
 refine⟨.ref s.heap.objs.size,_,I.laid (t':=s.toks) (o:=.tup (xs++ys)) (fun b ob q=>Heap.get?_push_of_some _ q) (Nat.le_refl _) ?_,rfl,q2 (fun w=>z (r2.wb.mpr w)) _ (I.hok.fresh (Nat.le_refl _))⟩
 exact⟨by rw[List.length_append];exact hz,_,r1.append r2,IsTup.new _ _⟩
end
end L2
namespace L2
open PySem PySem.Spec PyProof.Rows
def ixN (n:Nat) (i:Int):Option Nat:=if 0≤i then (if i < n then some i.toNat else none) else if -(n:Int)≤i then some (i + n).toNat else none
def atI {α:Type} (xs:List α) (i:Int):Option α:=(ixN xs.length i).bind fun j=>xs[j]?
theorem AK {n:Nat} {i:Int} {j:Nat} (h:ixN n i=some j):seqIndex? i n=some j∧j < n∧-(n:Int)≤i∧i < n:=by
 unfold ixN at h
 by_cases h0:0≤i
 ·rw[if_pos h0] at h
  by_cases h1:i < n
  ·rw[if_pos h1] at h
   have e:i.toNat=j:=Option.some.inj h
   exact⟨by rw[seqIndex_of h0 h1,e],by omega,by omega,h1⟩
  ·rw[if_neg h1] at h;cases h
 ·rw[if_neg h0] at h
  by_cases h1:-(n:Int)≤i
  ·rw[if_pos h1] at h
   have e:(i + n).toNat=j:=Option.some.inj h
   exact⟨by rw[seqIndex_neg (by omega) h1,e],by omega,h1,by omega⟩
  ·rw[if_neg h1] at h;cases h
theorem xh {α:Type} {xs:List α} {i:Int} {v:α} (h:atI xs i=some v):∃ j,seqIndex? i xs.length=some j∧xs[j]?=some v∧j < xs.length∧-(xs.length:Int)≤i∧i < xs.length:=by
 unfold atI at h
 cases e:ixN xs.length i with
 | none=>rw[e] at h;cases h
 | some j=>
  rw[e] at h
  obtain⟨h1,h2,h3,h4⟩:=AK e
  exact⟨j,h1,h,h2,h3,h4⟩
theorem GO {α:Type} {xs:List α} {j:Nat} {v:α} (h:xs[j]?=some v):atI xs (j:Int)=some v:=by
 have hj:j < xs.length:=(List.getElem?_eq_some_iff.mp h).1
 have e:ixN xs.length (j:Int)=some j:=by
  unfold ixN
  rw[if_pos (by omega),if_pos (by omega)];simp
 unfold atI;rw[e];exact h
theorem i6 {α:Type} (xs:List α) (v:α):atI (xs++[v]) (-1)=some v:=by
 have hl:(xs++[v]).length=xs.length + 1:=by simp
 have e:ixN (xs++[v]).length (-1)=some xs.length:=by
  unfold ixN
  rw[hl,if_neg (by decide),if_pos (by omega)]
  congr 1
  omega
 unfold atI
 rw[e]
 show (xs++[v])[xs.length]?=some v
 simp
def Bb (b:Expr):Prop:=∀ o i,subscripted b false o i=operate [o,i] (getItem o i)
def IxR (X:Cx) (r:R2):Prop:=
 ∀ (value slice:Expr) (pins:List (Addr×Obj)) (s:Shared) (σ:St) (H:Hp) (x y:V) (v u:Value) (Q:VK),Inv X pins σ H s→RelV x v→RelV y u→r x y H Q→
  subscripted slice false v u=operate [v,u] (getItem v u)→wpAny (model X.prog X.w) X.A (subscriptTail value slice v u) (EP X pins σ Q) X.xe s
def MtR (X:Cx) (id:String) (r:V→List V→Hp→VK→Prop):Prop:=
 ∀ (pins:List (Addr×Obj)) (s:Shared) (σ:St) (H:Hp) (x:V) (xs:List V) (v:Value) (us:List Value) (Q:VK),Inv X pins σ H s→RelV x v→Vals xs us→r x xs H Q→
  wpAny (model X.prog X.w) X.A (call (.builtin id) (v::us)) (EP X pins σ Q) X.xe s
section
variable {X:Cx} {a b:Expr} {ta tb:TE} {pos:Pos}
theorem IxR.or {r r':R2} (h:IxR X r) (h':IxR X r'):IxR X (fun x y H Q=>r x y H Q∨r' x y H Q):=by
 intro value slice pins s σ H x y v u Q I rx ry q hs
 rcases q with q | q
 ·exact h value slice pins s σ H x y v u Q I rx ry q hs
 ·exact h' value slice pins s σ H x y v u Q I rx ry q hs
theorem Kc {r:R2} (hr:IxR X r) (ha:PE X a ta) (hb:PE X b tb) (hs:Bb b):PE X (.Subscript a b pos) (tOp r ta tb):=by
 intro pins s σ H Q I h
 exact Subscript_ (Js ha hb I h fun v u s2 x y H2 I2 rx ry q=>hr a b pins s2 σ H2 x y v u Q I2 rx ry q (hs _ _))
def J4 (K:PySem.W.Frag):R2:=fun x y H Q=>∃ p xs i v,x=.ref p∧y=.int i∧SqL K H p xs∧atI xs i=some v∧Q v H
def J2 (K:PySem.W.Frag):R2:=fun x y H Q=>∃ p xs i v,x=.ref p∧y=.int i∧SqT K H p xs∧atI xs i=some v∧Q v H
def J3:R2:=fun x y H Q=>∃ z i c,x=.str z∧y=.int i∧z.length≤sizeLine∧atI z.cps.toList i=some c∧Q (.str ⟨#[c]⟩) H
theorem Gk:IxR X (J4 X.K):=by
 intro value slice pins s σ H x y v u Q I rx ry h hs
 obtain⟨p,xs,i,z,rfl,rfl,hq,he,q⟩:=h
 cases rx
 obtain⟨t,rfl⟩:=ry
 obtain⟨its,r,pl,hz⟩:=I.list hq
 obtain⟨j,h1,h2,h3,h4,h5⟩:=xh he
 obtain⟨w,ew,rw'⟩:=r.get h2
 have hl:=r.length
 have hn:=nY
 have fin:EP X pins σ Q w s:=⟨z,H,I,rw',q⟩
 by_cases h0:0≤i
 ·have hj:i.toNat=j:=by
   rw[seqIndex_of h0 h5] at h1
   exact Option.some.inj h1
  exact item_listR pl.isList h0 (by omega) (by rw[hj];simpa using ew) fin hs
 ·have hj:(i + (its.toArray.size:Int)).toNat=j:=by
   rw[seqIndex_neg (by omega) h4] at h1
   rw[List.size_toArray,← hl]
   exact Option.some.inj h1
  exact subscriptTail_builtinR (x:=w) pl.isList.typeIs slot_list_getitem.lookup
   (wpAny_getItem_list_neg (Q:=fun r s'=>r=w∧EP X pins σ Q r s') pl.isList (by omega) (by rw[List.size_toArray] <;> omega) (by omega) (by rw[hj];simpa using ew) ⟨rfl,fin⟩) hs
theorem IY:IxR X (J2 X.K):=by
 intro value slice pins s σ H x y v u Q I rx ry h hs
 obtain⟨p,xs,i,z,rfl,rfl,hq,he,q⟩:=h
 cases rx
 obtain⟨t,rfl⟩:=ry
 obtain⟨its,r,pl,hz⟩:=I.tuple hq
 obtain⟨j,h1,h2,h3,h4,h5⟩:=xh he
 obtain⟨w,ew,rw'⟩:=r.get h2
 have hl:=r.length
 have hn:=nY
 have fin:EP X pins σ Q w s:=⟨z,H,I,rw',q⟩
 exact subscriptTail_builtinR (x:=w) pl.typeIs slot_tuple_getitem.lookup
  (getItem_tuple (j:=j) (Q:=fun r s'=>r=w∧EP X pins σ Q r s') pl (by omega) (by omega) (by rw[List.size_toArray,← hl];exact h1) (by simpa using ew) ⟨rfl,fin⟩) hs
theorem IZ:IxR X J3:=by
 intro value slice pins s σ H x y v u Q I rx ry h hs
 obtain⟨z,i,c,rfl,rfl,hz,he,q⟩:=h
 obtain⟨t,rfl⟩:=rx
 obtain⟨t',rfl⟩:=ry
 obtain⟨j,h1,h2,h3,h4,h5⟩:=xh he
 have hl:z.cps.toList.length=z.length:=by simp [Str.length]
 rw[hl] at h1 h4 h5
 have hn:=nY
 exact tail_any (typeIs_str s z t) slot_str_getitem.lookup (getItem_str (c:=c) (by
  have e1:decide (i < -(2 ^ 63:Int))=false:=decide_eq_false (by omega)
  have e2:decide (i≥2 ^ 63)=false:=decide_eq_false (by omega)
  rw[e1,e2,Bool.or_false]) (by rw[h1];simpa using h2) ⟨.str ⟨#[c]⟩,H,I.tok _,⟨_,rfl⟩,q⟩) hs
def rIx (K:PySem.W.Frag):R2:=fun x y H Q=>J4 K x y H Q∨J2 K x y H Q∨J3 x y H Q
theorem I9:IxR X (rIx X.K):=Gk.or (IY.or IZ)
theorem zr (its:List Value) (n j:Nat) (u:Value):Obj.mapSeq (·.setIfInBounds j u) { cls:=.type "list",data:=.seq its.toArray n }={ cls:=.type "list",data:=.seq (its.set j u).toArray n }:=by
 simp [Obj.mapSeq]
theorem Inv.lst {pins:List (Addr×Obj)} {σ:St} {H:Hp} {s:Shared} {p:Addr} {xs:List V} (I:Inv X pins σ H s) (h:H p=some (.lst xs)) :
  ∃ (its:List Value) (n:Nat),Vals xs its∧s.heap.get? p=some { cls:=.type "list",data:=.seq its.toArray n }∧xs.length≤sizeLine:=by
 obtain⟨z,its,n,r,e⟩:=I.hok p _ h
 exact⟨its,n,r,e,z⟩
theorem Inv.IK {pins:List (Addr×Obj)} {σ:St} {H:Hp} {s:Shared} {p:Addr} {xs ys:List V} {its its':List Value} {n n':Nat} {f:Obj→Obj} (I:Inv X pins σ H s) (h:H p=some (.lst xs))
  (ho:s.heap.get? p=some { cls:=.type "list",data:=.seq its.toArray n }) (hf:f { cls:=.type "list",data:=.seq its.toArray n }={ cls:=.type "list",data:=.seq its'.toArray n' }) (r:Vals ys its') (hz:ys.length≤sizeLine) (t:Nat) :
  Inv X pins σ (upd H p (.lst ys)) { s with heap:=s.heap.update p f,toks:=t }:=by
 have e:(s.heap.update p f).get? p=some { cls:=.type "list",data:=.seq its'.toArray n' }:=by
  rw[Heap.get?_update_self f ho (by rw[hf] <;> rfl),hf]
 refine I.write (x:=p) (e:=p) (by rw[h];trivial) (.inl rfl) (fun b u hb q=>(Heap.get?_update_other _ _ (Ne.symm hb)).trans q) ⟨_,e⟩ ?_
 exact⟨hz,its',n',r,e⟩
def Ap:V→V→V→Hp→(Hp→Prop)→Prop:=fun o i v H Q=>∃ p xs k j,o=.ref p∧i=.int k∧H p=some (.lst xs)∧ixN xs.length k=some j∧Q (upd H p (.lst (xs.set j v)))
theorem set_list:Lc X Ap:=by
 intro pins s σ H o i v ov iv u Q I ro ri rv h
 obtain⟨p,xs,k,j,rfl,rfl,hp,hj,q⟩:=h
 cases ro
 obtain⟨t,rfl⟩:=ri
 obtain⟨its,n,r,ho,hz⟩:=I.lst hp
 obtain⟨h1,h2,h3,h4⟩:=AK hj
 have hl:=r.length
 have hn:=nY
 have I':Inv X pins σ (upd H p (.lst (xs.set j v))) { s with heap:=s.heap.update p (Obj.mapSeq (·.setIfInBounds j u)) }:=
  I.IK hp ho (zr its n j u) (r.set rv j) (by rw[List.length_set];exact hz) s.toks
 by_cases h0:0≤k
 ·have hk:k.toNat=j:=by
   rw[seqIndex_of h0 h4] at h1
   exact Option.some.inj h1
  exact PySem.W.ki_setAt ho h0 (by omega) (by rw[List.size_toArray,← hl];exact h4) (by rw[hk];exact⟨_,I',q⟩)
 ·have hk:(k + (its.toArray.size:Int)).toNat=j:=by
   rw[seqIndex_neg (by omega) h3] at h1
   rw[List.size_toArray,← hl]
   exact Option.some.inj h1
  exact PySem.W.ki_setBack ho (by omega) (by rw[List.size_toArray,← hl];exact h3) (by omega) (by rw[hk];exact⟨_,I',q⟩)
theorem vx (lo hi:Option Int) (n:Nat):(sliceBounds lo hi none n).1=((HT.sIx n 0 lo:Nat):Int)∧(sliceBounds lo hi none n).2.1=((HT.sIx n n hi:Nat):Int)∧(sliceBounds lo hi none n).2.2=1:=by
 refine⟨?_,?_,rfl⟩
 ·cases lo with
  | none=>simp [sliceBounds,HT.sIx]
  | some i=>
   simp only[sliceBounds,HT.sIx,Option.getD_none,show (1:Int) > 0 by decide,if_true]
   by_cases h:i < 0
   ·simp only[h,if_true] <;> omega
   ·simp only[h,if_false] <;> omega
 ·cases hi with
  | none=>simp [sliceBounds,HT.sIx]
  | some i=>
   simp only[sliceBounds,HT.sIx,Option.getD_none,show (1:Int) > 0 by decide,if_true]
   by_cases h:i < 0
   ·simp only[h,if_true] <;> omega
   ·simp only[h,if_false] <;> omega
theorem t8 (its:List Value) (lo hi:Option Int):slicePick its.toArray lo hi none=((its.drop (HT.sIx its.length 0 lo)).take (HT.sIx its.length its.length hi - HT.sIx its.length 0 lo)).toArray:=by
 obtain⟨h1,h2,h3⟩:=vx lo hi its.toArray.size
 unfold slicePick
 rw[h1,h2,h3]
 simp only[sliceRange_one,pick_run,List.size_toArray] <;> rfl
def JZ (K:PySem.W.Frag):V→Option Int→Option Int→Hp→VK→Prop:=fun x lo hi H Q=>∃ a xs,x=.ref a∧SqL K H a xs∧∀ p,H p=none→Q (.ref p) (upd H p (.lst (yo xs lo hi)))
theorem E8:SlR X (JZ X.K):=by
 intro pins s σ H x v vl vu lo hi sl Q I rx hs pl pu h
 obtain⟨a,xs,rfl,hx,q⟩:=h
 cases rx
 obtain⟨its,r,ht,hz⟩:=I.list hx
 have hlen:=r.length
 refine⟨"list",_,slot_list_getitem.lookup,ht.isList.typeIs,?_⟩
 refine wpAny_getItem_list_slice ht.isList hs pl pu .none (by simp) ?_ (by rw[List.size_toArray] <;> omega)
 rw[t8,← hlen]
 refine⟨.ref s.heap.objs.size,_,I.laid (t':=s.toks) (o:=.lst (yo xs lo hi)) (fun b ob q=>Heap.get?_push_of_some _ q) (Nat.le_refl _) ?_,rfl,q _ (I.hok.fresh (Nat.le_refl _))⟩
 exact⟨Nat.le_trans (qE xs lo hi) hz,_,0,(r.drop (HT.sIx xs.length 0 lo)).take (HT.sIx xs.length xs.length hi - HT.sIx xs.length 0 lo),Heap.get?_push_size _ rfl⟩
def nF:V→Bool
 | .non=>true
 | .bl _=>true
 | .int _=>true
 | .str _=>true
 | _=>false
def eqV:V→V→Bool
 | .non,.non=>true
 | .bl a,.bl b=>a == b
 | .bl a,.int b=>(if a then 1 else 0) == b
 | .int a,.bl b=>a == (if b then 1 else 0)
 | .int a,.int b=>a == b
 | .str a,.str b=>a == b
 | _,_=>false
theorem Jm {A:Around} {s:Shared} {y x:V} {u v:Value} (ry:RelV y u) (rx:RelV x v) (fy:nF y=true) (fx:nF x=true):SeqAt.EqAt A s u v (eqV y x):=by
 cases y with
 | non=>
  cases ry
  cases x with
  | non=>cases rx;exact SeqAt.EqAt.same _
  | bl b=>cases rx;exact SeqAt.EqAt.none_bool b
  | int b=>obtain⟨t,rfl⟩:=rx;exact SeqAt.EqAt.none_int b t
  | str b=>obtain⟨t,rfl⟩:=rx;exact SeqAt.EqAt.none_str b t
  | _=>exact absurd (show false=true from fx) Bool.false_ne_true
 | bl a=>
  cases ry
  cases x with
  | non=>cases rx;exact SeqAt.EqAt.bool_none a
  | bl b=>cases rx;exact SeqAt.EqAt.bool_bool a b
  | int b=>obtain⟨t,rfl⟩:=rx;exact SeqAt.EqAt.bool_int a b t
  | str b=>obtain⟨t,rfl⟩:=rx;exact SeqAt.EqAt.bool_str a b t
  | _=>exact absurd (show false=true from fx) Bool.false_ne_true
 | int a=>
  obtain⟨t',rfl⟩:=ry
  cases x with
  | non=>cases rx;exact SeqAt.EqAt.int_none a t'
  | bl b=>cases rx;exact SeqAt.EqAt.int_bool a t' b
  | int b=>obtain⟨t,rfl⟩:=rx;exact SeqAt.EqAt.int_int a t' b t
  | str b=>obtain⟨t,rfl⟩:=rx;exact SeqAt.EqAt.int_str a t' b t
  | _=>exact absurd (show false=true from fx) Bool.false_ne_true
 | str a=>
  obtain⟨t',rfl⟩:=ry
  cases x with
  | non=>cases rx;exact SeqAt.EqAt.str_none a t'
  | bl b=>cases rx;exact SeqAt.EqAt.str_bool a t' b
  | int b=>obtain⟨t,rfl⟩:=rx;exact SeqAt.EqAt.str_int a t' b t
  | str b=>obtain⟨t,rfl⟩:=rx;exact SeqAt.EqAt.str_str a t' b t
  | _=>exact absurd (show false=true from fx) Bool.false_ne_true
 | _=>exact absurd (show false=true from fy) Bool.false_ne_true
def eqU (x:V) (u:Value):Bool:=match u with
 | .none=>eqV .non x
 | .bool b=>eqV (.bl b) x
 | .int i _=>eqV (.int i) x
 | .str z _=>eqV (.str z) x
 | _=>false
theorem Eh {x y:V} {u:Value} (r:RelV y u) (f:nF y=true):eqU x u=eqV y x:=by
 cases y with
 | non=>cases r;rfl
 | bl b=>cases r;rfl
 | int i=>obtain⟨t,rfl⟩:=r;rfl
 | str z=>obtain⟨t,rfl⟩:=r;rfl
 | _=>exact absurd (show false=true from f) Bool.false_ne_true
theorem xj {x:V}:∀ {xs:List V} {us:List Value},Vals xs us→xs.all nF=true→us.any (eqU x)=xs.any fun y=>eqV y x
 | _,_,.nil,_=>rfl
 | y::xs,u::us,.cons r t,f=>by
  rw[List.all_cons,Bool.and_eq_true] at f
  rw[List.any_cons,List.any_cons,Eh r f.1,xj t f.2]
theorem sH {A:Around} {s:Shared} {x:V} {v:Value} (rx:RelV x v) (fx:nF x=true):∀ {xs:List V} {us:List Value},Vals xs us→xs.all nF=true→∀ u∈us,SeqAt.EqAt A s u v (eqU x u)
 | _,_,.nil,_=>fun u hu=>by cases hu
 | y::xs,u::us,.cons r t,f=>fun u' hu=>by
  rw[List.all_cons,Bool.and_eq_true] at f
  rcases List.mem_cons.mp hu with rfl | hu
  ·rw[Eh r f.1];exact Jm r rx f.1 fx
  ·exact sH rx fx t f.2 u' hu
def inV (x:V) (xs:List V):Bool:=xs.any fun y=>eqV y x
def rIn (K:PySem.W.Frag) (neg:Bool):R2:=fun x y H Q=>∃ p xs,y=.ref p∧(SqL K H p xs∨SqT K H p xs)∧nF x=true∧xs.all nF=true∧Q (.bl (if neg then !inV x xs else inV x xs)) H
theorem BF:OpR X (compareOp .In) (rIn X.K false):=by
 intro pins s σ H x y v u Q I rx ry h
 obtain⟨p,xs,rfl,hq,fx,fs,q⟩:=h
 cases ry
 rcases hq with hq | hq
 ·obtain⟨its,r,pl,hz⟩:=I.list hq
  refine SeqAt.in_listAt (eqU x) pl.isList (fun w hw=>sH rx fx r fs w (by simpa using hw)) ⟨.bl _,H,I,rfl,?_⟩
  rw[show its.toArray.any (eqU x)=its.any (eqU x) by simp,xj r fs]
  exact q
 ·obtain⟨its,r,pl,hz⟩:=I.tuple hq
  refine SeqAt.in_tupleAt (eqU x) pl (fun w hw=>sH rx fx r fs w (by simpa using hw)) ⟨.bl _,H,I,rfl,?_⟩
  rw[show its.toArray.any (eqU x)=its.any (eqU x) by simp,xj r fs]
  exact q
theorem w_:eR X (.builtin "len") (fun xs H Q=>∃ p ys,xs=[.ref p]∧(SqL X.K H p ys∨SqT X.K H p ys)∧Q (.int ys.length) H):=by
 intro pins s σ H xs us Q I r h
 obtain⟨p,ys,rfl,hq,q⟩:=h
 obtain⟨u,rfl,rx⟩:=vals1 r
 cases rx
 have hn:=nY
 rcases hq with hq | hq
 ·obtain⟨its,r',pl,hz⟩:=I.list hq
  have hlen:=r'.length
  exact Calls.call_len_list pl.isList (by simp only[List.size_toArray] <;> omega) ⟨.int ys.length,H,I.tok _,⟨s.toks + 1,by rw[List.size_toArray,hlen]⟩,q⟩
 ·obtain⟨its,r',pl,hz⟩:=I.tuple hq
  have hlen:=r'.length
  exact len_tuple pl (by simp only[List.size_toArray] <;> omega) ⟨.int ys.length,H,I.tok _,⟨s.toks + 1,by rw[List.size_toArray,hlen]⟩,q⟩
theorem w9:eR X (.builtin "len") (fun xs H Q=>∃ z,xs=[.str z]∧z.length≤sizeLine∧Q (.int z.length) H):=by
 intro pins s σ H xs us Q I r h
 obtain⟨z,rfl,hz,q⟩:=h
 obtain⟨u,rfl,t,rfl⟩:=vals1 r
 have hn:=nY
 exact len_str (by omega) ⟨.int z.length,H,I.tok _,⟨_,rfl⟩,q⟩
theorem uo:eR X (.type "tuple") (fun xs H Q=>∃ p ys,xs=[.ref p]∧((SqL X.K H p ys∧∀ l,H l=none→Q (.ref l) (upd H l (.tup ys)))∨(SqT X.K H p ys∧Q (.ref p) H))):=by
 intro pins s σ H xs us Q I r h
 obtain⟨p,ys,rfl,h⟩:=h
 obtain⟨u,rfl,rx⟩:=vals1 r
 cases rx
 rcases h with ⟨hq,q⟩ | ⟨hq,q⟩
 ·obtain⟨its,r',pl,hz⟩:=I.list hq
  have hlen:=r'.length
  refine call_tuple_list pl.isList (fun h' kp=>?_) (by simp only[List.size_toArray] <;> omega)
  have I1:Inv X pins σ H { s with heap:=h' }:=I.kept (t':=s.toks) kp
  have I2:Inv X pins σ (upd H h'.objs.size (.tup ys)) { s with heap:=h'.push { cls:=.type "tuple",data:=.seq its.toArray } }:=
   I1.laid (t':=s.toks) (fun b o e=>Heap.get?_push_of_some _ e) (Nat.le_refl _) (show dH X.prog X.w _ _ _ (.tup ys) from ⟨hz,its,r',IsTup.new _ _⟩)
  exact⟨.ref h'.objs.size,_,I2,rfl,q _ (I1.hok.fresh (Nat.le_refl _))⟩
 ·obtain⟨its,r',pl,hz⟩:=I.tuple hq
  exact call_tuple_same pl ⟨.ref p,H,I,rfl,q⟩
def tyV (K:PySem.W.Frag) (T:String) (x:V) (H:Hp):Prop:=match x with
 | .str _=>T="str"
 | .int _=>T="int"
 | .ref p=>(T="list"∧∃ xs,SqL K H p xs)∨(T="tuple"∧∃ o,K.lookup p=some o∧o.cls=.type "tuple"∧o.dict=none)∨
   (T="dict"∧((∃ kvs,H p=some (.dK kvs))∨∃ kvs,H p=some (.dT kvs)))∨(T="set"∧∃ S n,H p=some (.set S n))
 | _=>False
theorem Cr {pins:List (Addr×Obj)} {σ:St} {H:Hp} {s:Shared} {T:String} {x:V} {v:Value} (I:Inv X pins σ H s) (r:RelV x v) (ty:tyV X.K T x H) :
  s.TypeIs v T∧∀ a,v=.ref a→∃ ob,s.heap.get? a=some ob∧ob.dict=none:=by
 cases x with
 | str z=>
  obtain⟨t,rfl⟩:=r
  cases (show T="str" from ty)
  exact⟨typeIs_str s z t,fun _ e=>nomatch e⟩
 | int i=>
  obtain⟨t,rfl⟩:=r
  cases (show T="int" from ty)
  exact⟨typeIs_int s i t,fun _ e=>nomatch e⟩
 | ref p=>
  cases r
  rcases ty with ⟨rfl,xs,hq⟩ | ⟨rfl,o,hk,hc,hd⟩ | ⟨rfl,hk⟩ | ⟨rfl,S,n,hk⟩
  ·obtain⟨its,_,pl,_⟩:=I.list hq
   refine⟨pl.isList.typeIs,fun a e=>?_⟩
   cases e
   obtain⟨o,n,e,c,hd,_⟩:=pl
   exact⟨o,e,hd⟩
  ·refine⟨⟨o,I.kIn p o hk,hc⟩,fun a e=>?_⟩
   cases e
   exact⟨o,I.kIn _ o hk,hd⟩
  ·have z:∃ o,s.heap.get? p=some o∧o.ExactDict:=by
    rcases hk with ⟨kvs,hk⟩ | ⟨kvs,hk⟩
    ·obtain⟨_,_,_,_,o,_,_,e,ex,_⟩:=I.hok p _ hk
     exact⟨o,e,ex⟩
    ·obtain⟨_,_,_,_,o,_,_,e,ex,_⟩:=I.hok p _ hk
     exact⟨o,e,ex⟩
   obtain⟨o,e,ex⟩:=z
   refine⟨⟨o,e,ex.1⟩,fun a e2=>?_⟩
   cases e2
   exact⟨o,e,ex.2.1⟩
  ·obtain⟨o,_,_,_,e,ex,_⟩:=I.hok p _ hk
   refine⟨⟨o,e,ex.1⟩,fun a e2=>?_⟩
   cases e2
   exact⟨o,e,ex.2.1⟩
 | _=>exact False.elim ty
def Bm (K:PySem.W.Frag) (T:String) (r:V→List V→Hp→VK→Prop) (to:TE):TE:=fun σ H Q=>to σ H fun x H1=>tyV K T x H1∧r x [] H1 Q
def tBM (K:PySem.W.Frag) (T:String) (r:V→List V→Hp→VK→Prop) (to:TE) (t:TA):TE:=fun σ H Q=>to σ H fun x H1=>tyV K T x H1∧t σ H1 fun xs H2=>r x xs H2 Q
variable {o e:Expr} {es:List Expr} {to:TE} {t:TA} {name:Str} {apos cpos:Pos} {T id:String} {r:V→List V→Hp→VK→Prop}
theorem zc (pa:PlainAttrs T) (slot:Slot T name id) (hty:typeOf (.builtin id)=pure (.type "method_descriptor")) (hm:MtR X id r) (ho:PE X o to)
  (hbase:attributeBase o name X.env (eval o X.env)=eval o X.env:=by rfl) (hline:(apos.endLine == cpos.line)=true:=by rfl):PE X (.Call (.Attribute o name apos) [] [] cpos) (Bm X.K T r to):=by
 intro pins s σ H Q I h
 refine wpAny_Call_method0_late hbase hline (thn (ho pins s σ H _ I h) fun v s1 ⟨x,H1,I1,r1,ty,q1⟩=>?_)
 obtain⟨h1,h2⟩:=Cr I1 r1 ty
 exact⟨T,id,pa,slot,hty,h1,h2,Calls.callWith_builtin rfl (PySem.evalArgs_none (hm pins s1 σ H1 x [] v [] Q I1 r1 .nil q1))⟩
theorem xQ (pa:PlainAttrs T) (slot:Slot T name id) (hty:typeOf (.builtin id)=pure (.type "method_descriptor")) (hm:MtR X id r) (ho:PE X o to) (ha:PA X (e::es) t)
  (hbase:attributeBase o name X.env (eval o X.env)=eval o X.env:=by rfl)
  (hfew:((backTo cpos (starEach (e::es) X.env)).all (fun x=>!x.1) && (backToKw cpos (keywordEach [] X.env)).all (fun x=>x.1.isSome)
   && decide ((e::es).length + ([]:List Keyword).length + (if ([]:List Keyword).isEmpty then 0 else 1) < 30))=true:=by rfl)
  (hline:(apos.endLine == cpos.line)=true:=by rfl) (hs:starEach (e::es) X.env=(false,eval e X.env)::starEach es X.env:=by rfl) (hplain:(backTo cpos (starEach es X.env)).any (·.1)=false:=by rfl) :
  PE X (.Call (.Attribute o name apos) (e::es) [] cpos) (tBM X.K T r to t):=by
 intro pins s σ H Q I h
 refine wpAny_Call_method_late hbase hfew hline rfl (thn (ho pins s σ H _ I h) fun v s1 ⟨x,H1,I1,r1,ty,q1⟩=>?_)
 obtain⟨h1,h2⟩:=Cr I1 r1 ty
 refine⟨T,id,pa,slot,hty,h1,h2,?_⟩
 have hA:=ha cpos pins s1 σ H1 _ I1 q1
 rw[hs] at hA ⊢
 refine Calls.callWith_builtin (by show (false || (backTo cpos (starEach es X.env)).any (·.1))=false;rw[hplain] <;> rfl) (Calls.evalArgs_plain ?_)
 exact thn hA fun us s2 ⟨vs,H2,I2,r2,q2⟩=>hm pins s2 σ H2 x vs v us Q I2 r1 r2 q2
end
end L2
namespace L2
open PySem PySem.Spec PyProof.Rows
def MtM (X:Cx) (id:String) (r:V→List V→Hp→VK→Prop):Prop:=
 ∀ (pins:List (Addr×Obj)) (s:Shared) (σ:St) (H:Hp) (x:V) (xs:List V) (v:Value) (us:List Value) (Q:VK),Inv X pins σ H s→RelV x v→Vals xs us→r x xs H Q→
  wpAny (model X.prog X.w) X.A (call (.builtin id) (v::us)) (EP X pins σ Q) X.xe s
theorem Vals.one:∀ {x:V} {us:List Value},Vals [x] us→∃ u,us=[u]∧RelV x u
 | _,_,.cons r .nil=>⟨_,rfl,r⟩
theorem Vals.zero:∀ {us:List Value},Vals [] us→us=[]
 | _,.nil=>rfl
theorem Vals.dropLast {xs:List V} {us:List Value} (h:Vals xs us):Vals xs.dropLast us.dropLast:=by
 induction h with
 | nil=>exact .nil
 | cons r t ih=>
  cases t with
  | nil=>exact .nil
  | cons q t'=>exact .cons r ih
theorem Vals.eraseIdx:∀ {xs:List V} {us:List Value} (i:Nat),Vals xs us→Vals (xs.eraseIdx i) (us.eraseIdx i)
 | _,_,_,.nil=>.nil
 | _,_,0,.cons _ t=>t
 | _,_,i + 1,.cons r t=>.cons r (Vals.eraseIdx i t)
theorem Vals.reverse {xs:List V} {us:List Value} (h:Vals xs us):Vals xs.reverse us.reverse:=by
 induction h with
 | nil=>exact .nil
 | cons r t ih=>rw[List.reverse_cons,List.reverse_cons];exact Vals.append ih (.cons r .nil)
theorem zW {α:Type} (l:List α):l.eraseIdx (l.length - 1)=l.dropLast:=by
 induction l with
 | nil=>rfl
 | cons a r ih=>
  cases r with
  | nil=>rfl
  | cons b r=>
   have e:(a::b::r).length - 1=((b::r).length - 1) + 1:=by
    have h1:(a::b::r).length=r.length + 2:=rfl
    have h2:(b::r).length=r.length + 1:=rfl
    omega
   rw[e,List.eraseIdx_cons_succ,ih]
   all_goals rfl
theorem uU {α:Type}:∀ (l:List α) (i:Nat),(l.eraseIdx i).length≤l.length
 | [],_=>Nat.le_refl _
 | _::_,0=>Nat.le_succ _
 | _::r,i + 1=>Nat.succ_le_succ (uU r i)
section
variable {X:Cx} {pins:List (Addr×Obj)} {σ:St} {H:Hp} {s:Shared} {l b:Addr} {xs ys zs:List V}
theorem Inv.zD {its its':List Value} {n:Nat} {f:Array Value→Array Value} {t':Nat} (I:Inv X pins σ H s) (hH:H l=some (.lst xs))
  (e:s.heap.get? l=some { cls:=.type "list",data:=.seq its.toArray n }) (hf:f its.toArray=its'.toArray) (hv:Vals ys its') (hz:ys.length≤sizeLine) :
  Inv X pins σ (upd H l (.lst ys)) { s with heap:=s.heap.update l (Obj.mapSeq f),toks:=t' }:=by
 have q:=PySem.IsL.update e f
 rw[hf] at q
 refine I.write (x:=l) (e:=l) (by rw[hH];exact trivial) (.inl rfl) (fun b' u hb hu=>(Heap.get?_update_other s.heap (Obj.mapSeq f) (Ne.symm hb)).trans hu) ⟨_,q⟩ ?_
 exact⟨hz,its',_,hv,q⟩
theorem Inv.LD {its:List Value} {t':Nat} (I:Inv X pins σ H s) (hv:Vals ys its) (hz:ys.length≤sizeLine) :
  Inv X pins σ (upd H s.heap.objs.size (.lst ys)) { s with heap:=s.heap.push { cls:=.type "list",data:=.seq its.toArray },toks:=t' }:=
 I.laid (fun _ _ q=>Heap.get?_push_of_some _ q) (Nat.le_refl _) ⟨hz,its,0,hv,Heap.get?_push_size _ rfl⟩
theorem Inv.fresh (I:Inv X pins σ H s):H s.heap.objs.size=none:=I.hok.fresh (Nat.le_refl _)
theorem Inv.ui (I:Inv X pins σ H s) (hH:H l=some (.lst xs)):xs.length≤sizeLine∧∃ (its:List Value) (n:Nat),Vals xs its∧xs.length=its.length∧s.heap.get? l=some { cls:=.type "list",data:=.seq its.toArray n }:=by
 obtain⟨z,its,n,r,e⟩:=I.hok l _ hH
 exact⟨z,its,n,r,r.length,e⟩
theorem Dy {n:Nat} (h:n≤sizeLine):Builtin.List.listTooLong n=false:=by
 unfold Builtin.List.listTooLong
 exact decide_eq_false (by omega)
end
section
variable {X:Cx}
def vP:V→List V→Hp→VK→Prop:=fun x vs H Q=>∃ l xs y,x=.ref l∧vs=[y]∧H l=some (.lst xs)∧xs.length < sizeLine∧Q .non (upd H l (.lst (xs++[y])))
theorem BM:MtM X "list.append" vP:=by
 intro pins s σ H x vs v us Q I rx rv h
 obtain⟨l,xs,y,rfl,rfl,hH,hz,q⟩:=h
 cases rx
 obtain⟨u,rfl,ru⟩:=rv.one
 obtain⟨z,its,n,r,hl,e⟩:=I.ui hH
 refine call_meets F.slot_list_append ⟨_,e,rfl⟩ F.entry_list_append (F.args_list_append_2 _ _) (PySem.list_append l its.toArray n u (by rw[List.size_toArray];omega)) ⟨e,?_⟩
 refine⟨.non,_,I.zD (its':=its++[u]) hH e (by simp) (r.append (.cons ru .nil)) ?_,rfl,q⟩
 rw[List.length_append,List.length_singleton]
 omega
def vO:V→List V→Hp→VK→Prop:=fun x vs H Q=>∃ l b xs zs,x=.ref l∧vs=[.ref b]∧H l=some (.lst xs)∧H b=some (.lst zs)∧xs.length + zs.length≤sizeLine∧Q .non (upd H l (.lst (xs++zs)))
theorem BL:MtM X "list.extend" vO:=by
 intro pins s σ H x vs v us Q I rx rv h
 obtain⟨l,b,xs,zs,rfl,rfl,hH,hB,hz,q⟩:=h
 cases rx
 obtain⟨u,rfl,ru⟩:=rv.one
 cases ru
 obtain⟨z,its,n,r,hl,e⟩:=I.ui hH
 obtain⟨z2,its2,n2,r2,hl2,e2⟩:=I.ui hB
 have hsz:its.toArray.size + its2.toArray.size≤sizeLine:=by rw[List.size_toArray,List.size_toArray];omega
 have hlong:¬ (!its.toArray.isEmpty && Builtin.List.listTooLong (its.toArray.size + its2.toArray.size))=true:=by
  rw[Dy hsz,Bool.and_false]
  exact Bool.false_ne_true
 refine call_meets F.slot_list_extend ⟨_,e,rfl⟩ F.entry_list_extend (F.args_list_extend_2 _ _)
  (AutoSeq1.list_extend_list_list_0 l its.toArray n b its2.toArray n2 hlong (by rw[List.size_toArray];omega) (by omega)) ⟨e,e2,?_⟩
 refine⟨.non,_,I.zD (its':=its++its2) hH e (by simp) (r.append r2) ?_,rfl,q⟩
 rw[List.length_append]
 omega
def J1:V→List V→Hp→VK→Prop:=fun x vs H Q=>∃ l xs y,x=.ref l∧vs=[]∧H l=some (.lst xs)∧xs[xs.length - 1]?=some y∧Q y (upd H l (.lst xs.dropLast))
theorem IJ:MtM X "list.pop" J1:=by
 intro pins s σ H x vs v us Q I rx rv h
 obtain⟨l,xs,y,rfl,rfl,hH,hy,q⟩:=h
 cases rx
 have hus:=rv.zero
 subst hus
 obtain⟨z,its,n,r,hl,e⟩:=I.ui hH
 obtain⟨u,hu,ru⟩:=r.get hy
 have hy':its.toArray[its.toArray.size - 1]?=some u:=by
  show its.toArray[its.length - 1]?=some u
  rw[← Array.getElem?_toList,← hl]
  exact hu
 refine call_meets F.slot_list_pop ⟨_,e,rfl⟩ F.entry_list_pop (F.args_list_pop_1 _) (MeetsSeq.list_pop_last l its.toArray n u hy' (by rw[List.size_toArray];omega)) ⟨e,?_⟩
 refine⟨y,_,I.zD (its':=its.dropLast) hH e ?_ r.dropLast ?_,ru,q⟩
 ·show its.toArray.eraseIdxIfInBounds (its.toArray.size - 1)=its.dropLast.toArray
  rw[List.size_toArray,List.eraseIdxIfInBounds_toArray,zW]
 ·rw[List.length_dropLast]
  omega
def CU:V→List V→Hp→VK→Prop:=fun x vs H Q=>∃ l xs i k y,x=.ref l∧vs=[.int i]∧H l=some (.lst xs)∧-(2 ^ 63)≤i∧i < 2 ^ 63∧seqIndex? i xs.length=some k∧xs[k]?=some y∧Q y (upd H l (.lst (xs.eraseIdx k)))
theorem DD:MtM X "list.pop" CU:=by
 intro pins s σ H x vs v us Q I rx rv h
 obtain⟨l,xs,i,k,y,rfl,rfl,hH,h1,h2,hk,hy,q⟩:=h
 cases rx
 obtain⟨u,rfl,ru⟩:=rv.one
 obtain⟨t,rfl⟩:=ru
 obtain⟨z,its,n,r,hl,e⟩:=I.ui hH
 obtain⟨w,hw,rw'⟩:=r.get hy
 refine call_meets F.slot_list_pop ⟨_,e,rfl⟩ F.entry_list_pop (F.args_list_pop_2 _ _)
  (MeetsSeq.list_pop_at l its.toArray n i t k w (fitsIndex_both h1 h2) (by rw[List.size_toArray,← hl];exact hk) (by rw[← Array.getElem?_toList];exact hw) (by rw[List.size_toArray];omega)) ⟨e,?_⟩
 refine⟨y,_,I.zD (its':=its.eraseIdx k) hH e ?_ (r.eraseIdx k) ?_,rw',q⟩
 ·show its.toArray.eraseIdxIfInBounds k=(its.eraseIdx k).toArray
  rw[List.eraseIdxIfInBounds_toArray]
 ·have:=uU xs k
  omega
def sg:V→List V→Hp→VK→Prop:=fun x vs H Q=>∃ l xs,x=.ref l∧vs=[]∧H l=some (.lst xs)∧Q .non (upd H l (.lst xs.reverse))
theorem zk:MtM X "list.reverse" sg:=by
 intro pins s σ H x vs v us Q I rx rv h
 obtain⟨l,xs,rfl,rfl,hH,q⟩:=h
 cases rx
 have hus:=rv.zero
 subst hus
 obtain⟨z,its,n,r,hl,e⟩:=I.ui hH
 refine call_meets F.slot_list_reverse ⟨_,e,rfl⟩ F.entry_list_reverse (F.args_list_reverse_1 _) (AutoSeq1.list_reverse_list_0 l its.toArray n (by rw[List.size_toArray];omega)) ⟨e,?_⟩
 refine⟨.non,_,I.zD (its':=its.reverse) hH e (by simp) r.reverse ?_,rfl,q⟩
 rw[List.length_reverse]
 omega
def y6:V→List V→Hp→VK→Prop:=fun x vs H Q=>∃ l xs,x=.ref l∧vs=[]∧H l=some (.lst xs)∧Q .non (upd H l (.lst []))
theorem DF:MtM X "list.clear" y6:=by
 intro pins s σ H x vs v us Q I rx rv h
 obtain⟨l,xs,rfl,rfl,hH,q⟩:=h
 cases rx
 have hus:=rv.zero
 subst hus
 obtain⟨z,its,n,r,hl,e⟩:=I.ui hH
 refine call_meets F.slot_list_clear ⟨_,e,rfl⟩ F.entry_list_clear (F.args_list_clear_1 _) (AutoSeq1.list_clear_list_0 l its.toArray n (by rw[List.size_toArray];omega)) ⟨e,?_⟩
 exact⟨.non,_,I.zD (its':=[]) (ys:=[]) hH e rfl .nil (Nat.zero_le _),rfl,q⟩
def J5:R2:=fun x y H Q=>∃ l b xs zs,x=.ref l∧y=.ref b∧H l=some (.lst xs)∧H b=some (.lst zs)∧xs.length + zs.length≤sizeLine∧∀ p,H p=none→Q (.ref p) (upd H p (.lst (xs++zs)))
theorem ID:OpR X (binaryOp .Add) J5:=by
 intro pins s σ H x y v u Q I rx ry h
 obtain⟨l,b,xs,zs,rfl,rfl,hH,hB,hz,q⟩:=h
 cases rx
 cases ry
 obtain⟨z,its,n,r,hl,e⟩:=I.ui hH
 obtain⟨z2,its2,n2,r2,hl2,e2⟩:=I.ui hB
 refine PySem.P.add_list e e2 ?_ (by rw[List.size_toArray,List.size_toArray];omega)
 have ea:its.toArray++its2.toArray=(its++its2).toArray:=by simp
 rw[ea]
 exact⟨.ref _,_,I.LD (t':=s.toks) (r.append r2) (by rw[List.length_append];omega),rfl,q _ I.fresh⟩
def Mj:R2:=fun x y H Q=>∃ l k xs,x=.ref l∧y=.int k∧H l=some (.lst xs)∧-(2 ^ 63)≤k∧k < 2 ^ 63∧xs.length * k.toNat≤sizeLine∧
 ∀ p,H p=none→Q (.ref p) (upd H p (.lst (List.replicate k.toNat xs).flatten))
end
section
variable {prog:Program} {w:World} {A:Around} {E:Value→Shared→Prop} {s:Shared}
set_option maxRecDepth 100000 in
end
section
variable {X:Cx}
end
end L2
namespace L2
open PySem PySem.Spec PyProof.Rows
section
variable {κ:Type} [DecidableEq κ]
def ly (kvs:List (κ×V)) (k:κ):Option V:=(kvs.find? fun kv=>decide (kv.1=k)).map (·.2)
def putK (kvs:List (κ×V)) (k:κ) (v:V):List (κ×V):=
 if (kvs.any fun kv=>decide (kv.1=k))=true then kvs.map (fun kv=>if kv.1=k then (kv.1,v) else kv) else kvs++[(k,v)]
def Eo (kvs:List (κ×V)) (k:κ):List (κ×V):=kvs.filter fun kv=>decide (kv.1≠k)
theorem xq {p:κ×V} {r:List (κ×V)} {k:κ} (e:p.1=k):ly (p::r) k=some p.2:=by simp [ly,List.find?_cons,e]
theorem xr {p:κ×V} {r:List (κ×V)} {k:κ} (e:¬ p.1=k):ly (p::r) k=ly r k:=by simp [ly,List.find?_cons,e]
theorem yi (kvs:List (κ×V)) (k:κ) (v:V):(putK kvs k v).length≤kvs.length + 1:=by
 unfold putK
 split
 ·rw[List.length_map];omega
 ·rw[List.length_append,List.length_cons,List.length_nil];omega
theorem pE.getD {o:Option V} {u:Option Value} {d:V} {d':Value} (r:pE o u) (rd:RelV d d'):RelV (o.getD d) (u.getD d'):=by
 cases o with
 | none=>cases u with
  | none=>exact rd
  | some _=>exact(show False from r).elim
 | some _=>cases u with
  | none=>exact(show False from r).elim
  | some _=>exact r
theorem KV.val {kvs:List (κ×V)} {vs:List (κ×Value)} (r:KV kvs vs) (k:κ):pE (ly kvs k) (valueAt vs k):=by
 unfold KV at r
 induction r with
 | nil=>exact True.intro
 | @cons p q ps qs h t ih=>
  obtain⟨h1,h2⟩:=h
  by_cases e:p.1=k
  ·have e':q.1=k:=h1.symm.trans e
   have b:valueAt (q::qs) k=some q.2:=by simp [valueAt,List.find?_cons,e']
   rw[xq e,b];exact h2
  ·have e':¬ q.1=k:=fun z=>e (h1.trans z)
   have b:valueAt (q::qs) k=valueAt qs k:=by simp [valueAt,List.find?_cons,e']
   rw[xr e,b];exact ih
theorem KV.any {kvs:List (κ×V)} {vs:List (κ×Value)} (r:KV kvs vs) (k:κ):(kvs.any fun kv=>decide (kv.1=k))=vs.any fun kv=>decide (kv.1=k):=by
 unfold KV at r
 induction r with
 | nil=>rfl
 | cons h t ih=>rw[List.any_cons,List.any_cons,ih,h.1]
theorem KV.Lr {kvs:List (κ×V)} {vs:List (κ×Value)} (r:KV kvs vs) (k:κ) {y:V} {u:Value} (ry:RelV y u) :
  KV (kvs.map fun kv=>if kv.1=k then (kv.1,y) else kv) (vs.map fun kv=>if kv.1=k then (kv.1,u) else kv):=by
 unfold KV at r ⊢
 induction r with
 | nil=>exact .nil
 | @cons p q ps qs h t ih=>
  rw[List.map_cons,List.map_cons]
  refine .cons ?_ ih
  obtain⟨h1,h2⟩:=h
  by_cases e:p.1=k
  ·rw[if_pos e,if_pos (h1.symm.trans e)];exact⟨h1,ry⟩
  ·rw[if_neg e,if_neg (fun z=>e (h1.trans z))];exact⟨h1,h2⟩
theorem KV.put {kvs:List (κ×V)} {vs:List (κ×Value)} (r:KV kvs vs) (k:κ) {y:V} {u:Value} (ry:RelV y u):KV (putK kvs k y) (stored vs k u):=by
 unfold putK stored
 rw[r.any k]
 by_cases e:(vs.any fun kv=>decide (kv.1=k))=true
 ·rw[if_pos e,if_pos e];exact r.Lr k ry
 ·rw[if_neg e,if_neg e];exact Paired.snoc r ⟨rfl,ry⟩
end
theorem DU {P:Program} {w:World} {k:Key} {u:Value} (r:RelV (kV k) u):(dA P w).is k u=true:=by
 cases k with
 | inl i=>obtain⟨t,e⟩:=(show ∃ t,u=Value.int i t from r);subst e;exact x6 P w i t
 | inr x=>obtain⟨t,e⟩:=(show ∃ t,u=Value.str x t from r);subst e;exact x5 P w x t
theorem uW {P:Program} {w:World}:∀ {ks:List Key} {us:List Value},Vals (ks.map kV) us→ItemsAre (dA P w) ks us
 | [],_,r=>by rw[List.map_nil] at r;cases r;exact .nil
 | k::ks,_,r=>by
  rw[List.map_cons] at r
  cases r with
  | cons h t=>exact .cons (DU h) (uW t)
abbrev KT (H:Hp):List (List Key×V)→List (List Key×Addr×Value)→Prop:=Paired fun p q=>p.1=q.1∧H q.2.1=some (.tup (p.1.map kV))∧RelV p.2 q.2.2
theorem KT.val {H:Hp} {kvs:List (List Key×V)} {xs:List (List Key×Addr×Value)} (r:KT H kvs xs) (k:List Key):pE (ly kvs k) ((atKey xs k).map (·.2)):=by
 induction r with
 | nil=>exact True.intro
 | @cons p q ps qs h t ih=>
  obtain⟨h1,_,h2⟩:=h
  by_cases e:p.1=k
  ·have e':q.1=k:=h1.symm.trans e
   have b:atKey (q::qs) k=some q.2:=by simp [atKey,List.find?_cons,e']
   rw[xq e,b];exact h2
  ·have e':¬ q.1=k:=fun z=>e (h1.trans z)
   have b:atKey (q::qs) k=atKey qs k:=by simp [atKey,List.find?_cons,e']
   rw[xr e,b];exact ih
section
variable {P:Program} {w:World} {H:Hp} {h:Heap} {a:Addr}
theorem Hb {u:HO} (ok:HOk P w H h) (e:Rd H a u):dH P w H h a u:=e.ok ok
theorem Er {kvs:List (Key×V)} (ok:HOk P w H h) (e:Rd H a (.dK kvs)):kvs.length≤sizeLine∧(a == sysModules)=false∧∃ vs,KV kvs vs∧h.DictOf (dA P w) a vs:=
 show dH P w H h a (.dK kvs) from Hb ok e
theorem KW {kvs:List (Key×V)} (ok:HOk P w H h) (e:H a=some (.dK kvs)):kvs.length≤sizeLine∧(a == sysModules)=false∧∃ vs,KV kvs vs∧h.DictOf (dA P w) a vs:=Er ok (.inl e)
theorem DT {ks:List Key} (ok:HOk P w H h) (e:H a=some (.tup (ks.map kV))):(tupleKind (dA P w)).is h ks a:=by
 obtain⟨_,its,r,o,h1,h2,n,h3⟩:=(show dH P w H h a (.tup (ks.map kV)) from ok a _ e)
 exact⟨o,its.toArray,n,h1,h2,h3,by simpa using uW r⟩
theorem Hu {kvs:List (List Key×V)} (ok:HOk P w H h) (e:Rd H a (.dT kvs)):kvs.length≤sizeLine∧(a == sysModules)=false∧
  ∃ xs,KT H kvs xs∧h.DictOfH (tupleKind (dA P w)) a xs:=by
 obtain⟨z,y,xs,r,o,es,ep,h1,h2,h3,h4,h5⟩:=(show dH P w H h a (.dT kvs) from Hb ok e)
 refine⟨z,y,xs,r,o,es,ep,h1,h2,h3,h4,fun x hx=>?_,h5⟩
 have all:∀ {l:List (List Key×V)} {m:List (List Key×Addr×Value)},KT H l m→∀ x∈m,(tupleKind (dA P w)).is h x.1 x.2.1:=by
  intro l m q
  induction q with
  | nil=>intro x hx;exact nomatch hx
  | @cons p q ps qs hq t ih=>
   intro x hx
   rcases List.mem_cons.mp hx with e | hx
   ·subst e
    exact DT ok (by rw[← hq.1];exact hq.2.1)
   ·exact ih x hx
 exact all r x hx
end
def Ac (H:Hp) (a:Addr) (y:V) (r:Option V):Prop:=
 (∃ kvs k,Rd H a (.dK kvs)∧y=kV k∧r=ly kvs k)∨∃ kvs k b,Rd H a (.dT kvs)∧y=.ref b∧H b=some (.tup (k.map kV))∧r=ly kvs k
def Lf (H:Hp) (a:Addr) (y v:V) (H':Hp):Prop:=
 (∃ kvs k,H a=some (.dK kvs)∧y=kV k∧kvs.length < sizeLine∧H'=upd H a (.dK (putK kvs k v)))∨
 ∃ kvs k b,H a=some (.dT kvs)∧y=.ref b∧H b=some (.tup (k.map kV))∧kvs.length < sizeLine∧H'=upd H a (.dT (putK kvs k v))
section
variable {X:Cx} {pins:List (Addr×Obj)} {σ:St} {H:Hp} {s:Shared} {a:Addr} {y v:V} {u r:Value} {o:Option V} {A:Around} {E:Value→Shared→Prop}
theorem Inv.big (I:Inv X pins σ H s):sysModules < s.heap.objs.size:=by
 have h:mainGlobals < s.heap.objs.size:=(I.mod.glob.keeps I.bk).lt
 exact Nat.lt_trans (by decide) h
theorem GB {h':Heap} {t':Nat} {ob:HO} (I:Inv X pins σ H s) (mu:Mut (H a)) (hs:Heap.SameBut a s.heap h') (he:∃ q,h'.get? a=some q) (new:dH X.prog X.w (upd H a ob) h' a ob) :
  Inv X pins σ (upd H a ob) { s with heap:=h',toks:=t' }:=
 I.write (x:=a) (e:=a) mu (.inl rfl) (fun b q hb z=>(hs.2 b hb).trans z) he new
theorem Jn {P:Program} {w:World} {H':Hp} {h':Heap} {kvs:List (Key×V)} {vs:List (Key×Value)} (z:kvs.length≤sizeLine) (hd:(a == sysModules)=false) (rel:KV kvs vs) (dd:h'.DictOf (dA P w) a vs) :
  dH P w H' h' a (.dK kvs):=⟨z,hd,vs,rel,dd⟩
end
section
variable {X:Cx} {pins:List (Addr×Obj)} {σ:St} {H:Hp} {s:Shared} {a:Addr} {kvs:List (Key×V)} {k:Key} {u:Value} {A:Around} {E:Value→Shared→Prop}
end
def Mu (i:Expr):Prop:=∀ ov iv,subscripted i false ov iv=operate [ov,iv] (getItem ov iv)
def LX (td ty:TE):TE:=fun σ H Q=>td σ H fun x H1=>ty σ H1 fun y H2=>∃ a v,x=.ref a∧Ac H2 a y (some v)∧Q v H2
def Mf (ty td:TE):TE:=fun σ H Q=>ty σ H fun y H1=>td σ H1 fun x H2=>∃ a o,x=.ref a∧Ac H2 a y o∧Q (.bl o.isSome) H2
def Lg (ty td:TE):TE:=fun σ H Q=>ty σ H fun y H1=>td σ H1 fun x H2=>∃ a o,x=.ref a∧Ac H2 a y o∧Q (.bl (!o.isSome)) H2
def L0 (td ty tv:TE):TS:=fun D σ H=>tv σ H fun v H1=>td σ H1 fun x H2=>ty σ H2 fun y H3=>∃ a H4,x=.ref a∧Lf H3 a y v H4∧D.nx σ H4
def L4 (td ty tv:TE) (rd:V→V→Hp→VK→Prop):TS:=fun D σ H=>td σ H fun x H1=>ty σ H1 fun y H2=>∃ a v,x=.ref a∧Ac H2 a y (some v)∧
 tv σ H2 fun y2 H3=>rd v y2 H3 fun z H4=>∃ H5,Lf H4 a y z H5∧D.nx σ H5
def L1 (td ty:TE):TS:=fun D σ H=>td σ H fun x H1=>ty σ H1 fun y H2=>∃ a kvs k,x=.ref a∧H2 a=some (.dK kvs)∧y=kV k∧(ly kvs k).isSome=true∧D.nx σ (upd H2 a (.dK (Eo kvs k)))
section
variable {X:Cx} {o i e value:Expr} {pos pos' tpos:Pos} {td ty tv:TE}
end
theorem Es {P:Program} {w:World} {H:Hp} (h:Heap) (hb:sysModules < h.objs.size):dH P w H (h.push { cls:=.type "dict",data:=.dict #[] }) h.objs.size (.dK []):=
 ⟨Nat.zero_le _,beq_eq_false_iff_ne.mpr (Ne.symm (Nat.ne_of_lt hb)),[],.nil,Heap.DictOf.new h⟩
def Ln:TE:=fun _ H Q=>∀ p,H p=none→Q (.ref p) (upd H p (.dK []))
def Lm:TE:=fun _ H Q=>∀ p,H p=none→Q (.ref p) (upd H p (.dT []))
section
variable {X:Cx} {pos:Pos}
end
def yS:List (TE×TE)→St→Hp→(List (V×V)→Hp→Prop)→Prop
 | [],_,H,Q=>Q [] H
 | (tk,tv)::r,σ,H,Q=>tk σ H fun x H1=>tv σ H1 fun y H2=>yS r σ H2 fun ps H3=>Q ((x,y)::ps) H3
abbrev VV:List (V×V)→List (Value×Value)→Prop:=Paired fun p q=>RelV p.1 q.1∧RelV p.2 q.2
def PPs (X:Cx) (pos:Pos) (keys:List (Option Expr)) (values:List Expr) (trs:List (TE×TE)):Prop:=
 ∀ (pins:List (Addr×Obj)) (s:Shared) (σ:St) (H:Hp) (Q:List (V×V)→Hp→Prop),Inv X pins σ H s→yS trs σ H Q→
  wpAny (model X.prog X.w) X.A (evalPairs (pairTrees keys values X.env pos)) (fun vs s'=>∃ ps H',Inv X pins σ H' s'∧VV ps vs∧Q ps H') X.xe s
theorem Fv {X:Cx} {pos:Pos}:PPs X pos [] [] []:=fun pins s σ H Q I h=>pairTrees_nil_walk ⟨[],H,I,.nil,h⟩
theorem xO {X:Cx} {pos:Pos} {k v:Expr} {ks:List (Option Expr)} {vs:List Expr} {tk tv:TE} {trs:List (TE×TE)} (hk:PE X k tk) (hv:PE X v tv) (hr:PPs X pos ks vs trs) :
  PPs X pos (some k::ks) (v::vs) ((tk,tv)::trs):=fun pins s σ H Q I h=>
 pairTrees_cons_walk (thn (hk pins s σ H _ I h) fun u s1 ⟨x,H1,I1,rx,q1⟩=>thn (hv pins s1 σ H1 _ I1 q1) fun w2 s2 ⟨y,H2,I2,ry,q2⟩=>
  thn (hr pins s2 σ H2 _ I2 q2) fun ws s3 ⟨ps,H3,I3,rel,q3⟩=>⟨(x,y)::ps,H3,I3,.cons ⟨rx,ry⟩ rel,q3⟩)
def kb (kvs more:List (Key×V)):List (Key×V):=more.foldl (fun acc kv=>putK acc kv.1 kv.2) kvs
theorem KV.merge:∀ {more:List (Key×V)} {rs:List (Key×Value)} {kvs:List (Key×V)} {vs:List (Key×Value)},KV more rs→KV kvs vs→KV (kb kvs more) (merged vs rs):=by
 intro more rs kvs vs r
 unfold KV at r
 induction r generalizing kvs vs with
 | nil=>intro q;exact q
 | @cons p q ps qs h t ih=>
  intro r0
  have e:KV (putK kvs p.1 p.2) (stored vs q.1 q.2):=by
   have:=r0.put p.1 h.2
   rw[← h.1];exact this
  exact ih e
theorem nD:∀ (more kvs:List (Key×V)),(kb kvs more).length≤kvs.length + more.length
 | [],kvs=>by show kvs.length≤kvs.length + 0;omega
 | p::r,kvs=>by
  have h1:=nD r (putK kvs p.1 p.2)
  have h2:=yi kvs p.1 p.2
  show (kb (putK kvs p.1 p.2) r).length≤_
  rw[List.length_cons];omega
theorem tH {P:Program} {w:World}:∀ {kvs:List (Key×V)} {ws:List (Value×Value)},VV (kvs.map fun kv=>(kV kv.1,kv.2)) ws→∃ rs,Carries (dA P w) ws rs∧KV kvs rs
 | [],_,r=>by rw[List.map_nil] at r;cases r;exact⟨[],True.intro,.nil⟩
 | p::kvs,_,r=>by
  rw[List.map_cons] at r
  cases r with
  | @cons a b as bs h t=>
   obtain⟨rs,c,q⟩:=tH (P:=P) (w:=w) t
   obtain⟨b1,b2⟩:=b
   exact⟨(p.1,b2)::rs,⟨DU h.1,rfl,c⟩,.cons ⟨rfl,h.2⟩ q⟩
def G6 (trs:List (TE×TE)):TE:=fun σ H Q=>∀ p,H p=none→yS trs σ (upd H p (.dK [])) fun ps H2=>H2 p=some (.dK [])∧∃ kvs:List (Key×V),ps=kvs.map (fun kv=>(kV kv.1,kv.2))∧kvs.length≤15∧Q (.ref p) (upd H2 p (.dK (kb [] kvs)))
theorem FE {X:Cx} {pos:Pos} {keys:List (Option Expr)} {values:List Expr} {trs:List (TE×TE)} (h:PPs X pos keys values trs) (hall:keys.all (·.isSome)=true) (hl:keys.length=values.length) (h0:keys≠[])
  (h15:keys.length≤15):PE X (.Dict keys values pos) (G6 trs):=by
 intro pins s σ H Q I q
 have hn:=I.hok.fresh (Nat.le_refl s.heap.objs.size)
 have I1:=I.laid (a:=s.heap.objs.size) (o:=.dK []) (h':=s.heap.push { cls:=.type "dict",data:=.dict #[] }) (t':=s.toks) (fun _ _ q=>Heap.get?_push_of_some _ q) (Nat.le_refl _) (Es s.heap I.big)
 refine wpAny_Dict_walk (knd:=dA X.prog X.w) hall hl h0 h15 (thn (h pins _ σ _ _ I1 (q _ hn)) fun ws s2 ⟨ps,H2,I2,rel,e,kvs,ep,lk,q2⟩=>?_)
 subst ep
 obtain⟨rs,c,rk⟩:=tH (P:=X.prog) (w:=X.w) rel
 obtain⟨z,hd,vs0,r0,dd⟩:=KW I2.hok e
 cases r0
 refine⟨rs,c,dd,fun h' dd' hs=>⟨.ref s.heap.objs.size,_,?_,rfl,q2⟩⟩
 have hz:(kb [] kvs).length≤sizeLine:=by
  have h1:=nD kvs []
  rw[List.length_nil] at h1
  rw[sizeLine_eq];omega
 have he:∃ q,h'.get? s.heap.objs.size=some q:=let ⟨q,_,_,hq,_⟩:=dd';⟨q,hq⟩
 exact GB I2 (by rw[e];exact True.intro) hs he (Jn hz hd (rk.merge .nil) dd')
structure M1 (X:Cx) (o:Expr) (m:Str) (apos:Pos) (e:Expr) (cpos:Pos):Prop where
 base:attributeBase o m X.env (eval o X.env)=eval o X.env
 few:((backTo cpos (starEach [e] X.env)).all (fun x=>!x.1) && (backToKw cpos (keywordEach [] X.env)).all (fun x=>x.1.isSome)
  && decide (([e]:List Expr).length + ([]:List Keyword).length + (if ([]:List Keyword).isEmpty then 0 else 1) < 30))=true
 line:(apos.endLine == cpos.line)=true
 trees:backTo cpos (starEach [e] X.env)=[(false,eval e X.env)]
structure M2 (X:Cx) (o:Expr) (m:Str) (apos:Pos) (e f:Expr) (cpos:Pos):Prop where
 base:attributeBase o m X.env (eval o X.env)=eval o X.env
 few:((backTo cpos (starEach [e,f] X.env)).all (fun x=>!x.1) && (backToKw cpos (keywordEach [] X.env)).all (fun x=>x.1.isSome)
  && decide (([e,f]:List Expr).length + ([]:List Keyword).length + (if ([]:List Keyword).isEmpty then 0 else 1) < 30))=true
 line:(apos.endLine == cpos.line)=true
 trees:backTo cpos (starEach [e,f] X.env)=[(false,eval e X.env),(false,eval f X.env)]
def IsD (H:Hp) (a:Addr):Prop:=(∃ kvs,Rd H a (.dK kvs))∨∃ kvs,Rd H a (.dT kvs)
theorem Jb {X:Cx} {pins:List (Addr×Obj)} {σ:St} {H:Hp} {s:Shared} {a:Addr} (I:Inv X pins σ H s) (d:IsD H a) :
  s.TypeIs (.ref a) "dict"∧(∀ b,Value.ref a=.ref b→∃ ob,s.heap.get? b=some ob∧ob.dict=none)∧(a == sysModules)=false:=by
 rcases d with ⟨kvs,e⟩ | ⟨kvs,e⟩
 ·obtain⟨_,hd,vs,_,dd⟩:=Er I.hok e
  refine⟨dd.typeIs,fun b q=>?_,hd⟩
  cases q
  obtain⟨ob,_,_,h1,h2,_⟩:=dd
  exact⟨ob,h1,h2.2.1⟩
 ·obtain⟨_,hd,xs,_,dd⟩:=Hu I.hok e
  refine⟨dd.typeIs,fun b q=>?_,hd⟩
  cases q
  obtain⟨ob,_,_,h1,h2,_⟩:=dd
  exact⟨ob,h1,h2.2.1⟩
section
variable {X:Cx} {pins:List (Addr×Obj)} {σ:St} {H:Hp} {s:Shared} {a:Addr} {y d:V} {u r:Value} {o:Option V} {A:Around} {E:Value→Shared→Prop}
theorem Jo {Q:Value→Shared→Prop} (hu:A.units + 1 < cLine) (I:Inv X pins σ H s) (g:Ac H a y o) (ry:RelV y u) (rd:RelV d r) (h:∀ w' s',Inv X pins σ H s'→RelV (o.getD d) w'→Q w' s') :
  wpAny (model X.prog X.w) A (call (.builtin "dict.get") [.ref a,u,r]) Q E s:=by
 rcases g with ⟨kvs,k,e,ey,l⟩ | ⟨kvs,k,b,e,ey,eb,l⟩
 ·subst ey
  obtain⟨z,hd,vs,rel,dd⟩:=Er I.hok e
  refine call_meetsIn PySem.F.slot_dict_get dd.typeIs PySem.F.entry_dict_get (PySem.F.args_dict_get_3 _ _ _) (meets_dict_get_default (dA X.prog X.w) a (DU ry) hd r) ⟨_,dd.mapOf,h _ _ (I.tok _) ?_⟩
  rw[l]
  exact(rel.val k).getD rd
 ·subst ey
  cases (show u=Value.ref b from ry)
  obtain⟨z,hd,xs,rel,dd⟩:=Hu I.hok e
  refine call_meetsIn PySem.F.slot_dict_get dd.typeIs PySem.F.entry_dict_get (PySem.F.args_dict_get_3 _ _ _) (meetsH_dict_get_default (tupleKind (dA X.prog X.w)) a b hd r) ⟨tupleKind_room_in1 hu,k,xs,DT I.hok eb,dd,h _ _ (I.tok _) ?_⟩
  rw[l]
  exact(rel.val k).getD rd
end
def Lo (td ty:TE):TE:=fun σ H Q=>td σ H fun x H1=>∃ a,x=.ref a∧IsD H1 a∧ty σ H1 fun y H2=>∃ o,Ac H2 a y o∧Q (o.getD .non) H2
def Cw (td ty tx:TE):TE:=fun σ H Q=>td σ H fun x H1=>∃ a,x=.ref a∧IsD H1 a∧ty σ H1 fun y H2=>tx σ H2 fun z H3=>∃ o,Ac H3 a y o∧Q (o.getD z) H3
def Ll (td ty:TE):TE:=fun σ H Q=>td σ H fun x H1=>∃ a,x=.ref a∧IsD H1 a∧ty σ H1 fun y H2=>∃ kvs k v,H2 a=some (.dK kvs)∧y=kV k∧ly kvs k=some v∧Q v (upd H2 a (.dK (Eo kvs k)))
def Lk (td ty tx:TE):TE:=fun σ H Q=>td σ H fun x H1=>∃ a,x=.ref a∧IsD H1 a∧ty σ H1 fun y H2=>tx σ H2 fun z H3=>∃ kvs k,H3 a=some (.dK kvs)∧y=kV k∧
 (∀ v,ly kvs k=some v→Q v (upd H3 a (.dK (Eo kvs k))))∧(ly kvs k=none→Q z H3)
section
variable {X:Cx} {o e f:Expr} {apos cpos:Pos} {td ty tx:TE}
theorem Dc (hu:X.A.units + 1 < cLine) (ho:PE X o td) (he:PE X e ty) (hf:PE X f tx) (m:M2 X o "get" apos e f cpos):PE X (.Call (.Attribute o "get" apos) [e,f] [] cpos) (Cw td ty tx):=by
 intro pins s σ H Q I h
 refine wpAny_Call_method m.base m.few m.line PySem.F.plainAttrs_dict PySem.F.slot_dict_get PySem.F.type_dict_get (thn (ho pins s σ H _ I h) fun u s1 ⟨x,H1,I1,rx,a,ex,d,q1⟩=>?_)
 subst ex
 obtain rfl:u=Value.ref a:=rx
 obtain⟨t1,t2,_⟩:=Jb I1 d
 refine⟨t1,t2,?_⟩
 rw[m.trees]
 refine Calls.callWith_builtin rfl (Calls.evalArgs_plain (Calls.spliced_cons (thn (he pins s1 σ H1 _ I1 q1) fun iv s2 ⟨y,H2,I2,ry,q2⟩=>
  Calls.spliced_cons (thn (hf pins s2 σ H2 _ I2 q2) fun fv s3 ⟨z,H3,I3,rz,ov,g,q3⟩=>Calls.spliced_nil ?_))))
 exact Jo hu I3 g ry rz fun w' s4 I4 rw'=>⟨_,H3,I4,rw',q3⟩
end
section
variable {X:Cx} {pins:List (Addr×Obj)} {σ:St} {H:Hp} {s:Shared} {a:Addr} {kvs:List (Key×V)} {A:Around} {E:Value→Shared→Prop}
end
section
variable {X:Cx} {pins:List (Addr×Obj)} {σ:St} {H:Hp} {s:Shared} {a:Addr} {y:V} {u:Value} {A:Around} {E:Value→Shared→Prop}
end
end L2
namespace Att
open PySem PySem.W PySem.Calls PyProof.Rows
theorem rn {P:Params} {h:Heap}:∀ (ns:List Int) (vs:List Value),WellAll P h vs (ns.map WData.int)→IntsAre vs ns:=by
 intro ns
 induction ns with
 | nil=>
  intro vs w
  rw[List.map_nil] at w
  cases w
  exact .nil
 | cons n ns ih=>
  intro vs w
  rw[List.map_cons] at w
  cases w with
  | cons a b=>
   cases a
   exact .cons _ _ (ih _ b)
theorem Bp {l:OpenLaw} {n:Nat} (hn:l.most=some n) {P:Params} {h:Heap} {args:List WData} {vals:List Value}
  (hpre:l.row.toRowW.claim.pre args=true) (hwl:WellAll P h vals args) :
  ∃ a vs ns,vals=[Value.ref a]∧args=[WData.list (ns.map WData.int)]∧h.get? a=some { cls:=.type "list",data:=.seq vs.toArray }∧IntsAre vs ns∧ns.length≤n:=by
 have hsh:WShape.hasAll [] args [.list .int]=true:=(pre_splitW hpre).1
 have hc:l.pre.holds [] { args:=args }=true:=(pre_splitW hpre).2
 obtain⟨d,r,rfl,h1,h2⟩:=hasAllW_cons hsh
 obtain rfl:=hasAllW_nil h2
 obtain⟨xs,rfl,h3⟩:=hasW_list h1
 obtain⟨ns,rfl⟩:=items_int h3
 have hlen:ns.length≤n:=by
  unfold OpenLaw.pre at hc
  have h4:(WTm.not (.lt (.lit (.int (n:Int))) (.len (.arg 0)))).holds [] { args:=[.list (ns.map .int)] }=true:=by
   have h4:=(holds_andW hc).1
   rw[hn] at h4
   exact h4
  have h5:=condW_of h4 (w_not (w_lt w_lit (w_len_list (w_arg rfl))))
  rw[List.length_map] at h5
  refine Nat.le_of_not_lt fun q=>?_
  have q':(n:Int) < ((ns.length:Nat):Int):=by omega
  first
   | (rw[decide_eq_true q'] at h5;exact absurd h5 (by decide))
   | (simp at h5;omega)
 cases hwl with
 | cons w1 w2=>
  cases w2
  cases w1 with
  | list ho hall=>exact⟨_,_,ns,rfl,rfl,ho,rn ns _ hall,hlen⟩
theorem Bw (l:OpenLaw) (args:List WData):l.row.toRowW.claim.post args (.bool true) args=true:=
 postW_of (r:=l.row.toRowW) (X:=(true == true))
  (show WShape.has [] (.bool true) .bool=true by first | rfl | decide | simp [WShape.has,WShape.arms,WShape.armsAll])
  (show (WTm.eq .res (.lit (.bool true))).value [] { args:=args,res:=some (.bool true),after:=args }=some (.bool (true == true)) from w_eq_bool (w_res rfl) w_lit) rfl
theorem yG {l:OpenLaw} {n:Nat} {q:Program} {loose:List Str} {XP:(Str→Option Value)→Heap→Prop} {YP:World→Heap→Prop} {d:DefRec}
  (hn:l.most=some n) (hdf:d.params.defaults=[])
  (call:∀ (w:World) (s₀ s₁:Shared) (mg mb:Str→Option Value) (fa:Addr) (o:Obj) (pm cd doc:Value) (a:Addr) (vs:List Value) (ns:List Int),
   Ground q loose [] XP w s₀ mg mb s₁.heap→YP w s₁.heap→
   s₁.heap.get? fa=some o→o.data=.func (docDef d.name d.params d.body d.scope pm cd doc)→s₁.heap.CodeRec cd d.name→mg d.name=some (.ref fa)→
   s₁.heap.get? a=some { cls:=.type "list",data:=.seq vs.toArray }→IntsAre vs ns→ns.length≤n→s₁.gens=#[]→
   codeAny (model l.prog w) callerA (.call (.ref fa) ⟨[.ref a],[]⟩) (fun r s'=>r=.ok (.ret (.bool true))∧OldK s₁.heap s'.heap∧s'.os=s₁.os∧AllBare s'.gens) s₁) :
  WalkO q loose XP YP l.row.toRowW d [] (fun f vs=>PySem.call f vs):=by
 intro w s₀ s₁ mg mb G Y fa o pm cd doc dV kV ho hd hcd hD hmg hg args vals as hpre hlay hrd hwl hlo
 obtain rfl:dV=.none:=Dflts.none hD hdf
 obtain rfl:kV=.none:=Dflts.noKw hD
 obtain⟨a,vs,ns,rfl,rfl,hobj,hints,hlen⟩:=Bp hn hpre hwl
 refine enter_call (codeAny_mono (call w s₀ s₁ mg mb fa o pm cd doc a vs ns G Y ho (fd_plain hd) hcd hmg hobj hints hlen hg) fun r s' hq=>?_)
 obtain⟨rfl,h2,h3,h4⟩:=hq
 exact⟨.inl ⟨.bool true,.bool true,[],rfl,fun _=>rfl,.bool true,Bw l _,fun _=>⟨List.Pairwise.nil,fun _ hm=>(nomatch hm)⟩⟩,h2,h3,h4⟩
section
variable {prog:Program} {w:World} {A:Around} {E:Value→Shared→Prop} {s:Shared} {K:Frag}
def Lz (h:Heap):Heap:={ h with objs:=#[] }
def ledger (h:Heap) (L d:Addr):List (Addr×Obj):=(List.range h.objs.size).filterMap fun a=>if a=L∨a=d then none else (h.get? a).map fun o=>(a,o)
end
end Att
namespace L2
open PySem PySem.Spec PyProof.Rows
theorem uC:∀ {vs:List Value} {ns:List Int},IntsAre vs ns→Vals (ns.map V.int) vs
 | _,_,.nil=>.nil
 | _,_,.cons n t h=>.cons ⟨t,rfl⟩ (uC h)
def Jz (H:Hp):Prop:=∀ b,H b=none∨∃ o xs,H b=some (.frz o (.lst xs))
theorem DS {P:Program} {w:World} {K:PySem.W.Frag} {mg mb:Str→Option Value} {CX:CXT} {k:Nat} {fa a:Addr} {fd:FuncData} {x:Str} {sp:Sp} {s₁:Shared} {vs:List Value} {ns:List Int}
  (KX:K.In s₁.heap) (hns:s₁.heap.Ns mainGlobals mg) (hb:s₁.heap.Ns builtinsNs mb) (hbb:∀ x:Str,x≠"__name__"→mb x=bootBuiltins x) (hlim:s₁.heap.NoLimit) (hg:s₁.gens=#[])
  (ha:s₁.heap.get? a=some { cls:=.type "list",data:=.seq vs.toArray }) (hi:IntsAre vs ns) (hl:ns.length≤sizeLine) (hr:eg k callerA)
  (F:∀ base:Heap,K.In base→base.Ns mainGlobals mg→aT P w K mg base CX k fa fd [x] sp) (hbind:∀ (s:Shared) (u:Value),BindsTo s fd ⟨[u],[]⟩ [(x,u)])
  (hsp:∀ H:Hp,Jz H→SqL K H a (ns.map V.int)→sp [.ref a] H (fun v _=>v=.bl true) fun _ _ _=>False)
  (hCX:∀ H e s',CX [] H s₁ (fun _ _ _=>False) e s'→False) :
  codeAny (model P w) callerA (.call (.ref fa) ⟨[.ref a],[]⟩) (fun r s'=>r=.ok (.ret (.bool true))∧OldK s₁.heap s'.heap∧s'.os=s₁.os∧AllBare s'.gens) s₁:=by
 have rv:=uC hi
 have lenV:=hi.length
 have core:∀ H:Hp,Jz H→SqL K H a (ns.map V.int)→HOk P w H s₁.heap→(∀ b,H b≠none→b=a)→(H a≠none→K.lookup a=none)→
   codeAny (model P w) callerA (.call (.ref fa) ⟨[.ref a],[]⟩) (fun r s'=>r=.ok (.ret (.bool true))∧OldK s₁.heap s'.heap∧s'.os=s₁.os∧AllBare s'.gens) s₁:=by
  intro H hO hS hok hA hK
  have base_of:∀ {b:Addr} {o:Obj},s₁.heap.get? b=some o→H b=none→(wH s₁.heap H).get? b=some o:=fun e n=>D2 e n
  have noA:∀ {b:Addr} {o:Obj} {es:Array DictEntry} {ep:Nat},s₁.heap.get? b=some o→o.data=.dict es ep→H b=none:=fun {b o es ep} e d=>by
   cases q:H b with
   | none=>rfl
   | some u=>
    have e':b=a:=hA b (by rw[q];simp)
    subst e'
    rw[ha] at e;cases e
    have d':Data.seq vs.toArray _=Data.dict es ep:=d
    cases d'
  have nsK:∀ {b:Addr} {m:Str→Option Value},s₁.heap.Ns b m→(wH s₁.heap H).Ns b m:=fun {b m} ⟨o,es,ep,e,d,r⟩=>⟨o,es,ep,base_of e (noA e d),d,r⟩
  have hKb:K.In (wH s₁.heap H):=fun b o e=>base_of (KX b o e) (by
   cases q:H b with
   | none=>rfl
   | some u=>
    have e':b=a:=hA b (by rw[q];simp)
    subst e'
    rw[hK (by rw[q];simp)] at e;cases e)
  have hM:Mod K mg (wH s₁.heap H):=⟨hKb,nsK hns,⟨mb,nsK hb,hbb⟩,let ⟨mc,h1,h2⟩:=hlim;⟨mc,nsK h1,h2⟩⟩
  have e0:Ab P w K mg (wH s₁.heap H) callerA [] s₁ H:=⟨rfl,hM,fun b o e=>F8 e,Nat.le_of_eq (B1 _ _),trivial,fun b hb=>absurd (show b∈([]:List Addr) from hb) (by simp),hok,.of_eq hg⟩
  refine codeAny_mono ((F _ hKb (nsK hns)).run callerA [] s₁ H ⟨[.ref a],[]⟩ [.ref a] [.ref a] _ _ hr e0 (hbind s₁ (.ref a)) (.cons rfl .nil) (hsp H hO hS)) fun r s' h=>?_
  cases r with
  | error e=>exact(hCX H e s' h).elim
  | ok fl=>
   cases fl with
   | next=>exact False.elim h
   | brk=>exact False.elim h
   | cont=>exact False.elim h
   | ret u=>
    obtain⟨v,H',os,bare,un,hok',r',q⟩:=h
    have q':v=.bl true:=q
    subst q'
    obtain rfl:u=Value.bool true:=r'
    refine⟨rfl,OldK.of_keep fun b o e=>?_,os,bare⟩
    cases q:H b with
    | none=>exact un.keep b o e q (by intro z;exact absurd (show b∈([]:List Addr) from z) (by simp)) (by simp)
    | some u=>
     rcases hO b with z | ⟨ob,xs,z⟩
     ·rw[q] at z;cases z
     ·have z2:=un.frzs b ob _ z
      obtain⟨e1,_⟩:=hok b _ z
      obtain⟨e2,_⟩:=hok' b _ z2
      rw[e] at e1;cases e1
      exact e2
 cases hk:K.lookup a with
 | some o=>
  have e:=KX a o hk
  rw[ha] at e
  cases e
  refine core (fun _=>none) (fun _=>.inl rfl) (.inr ⟨_,vs.toArray,_,hk,rfl,rfl,rfl,by rw[List.size_toArray,lenV];exact hl,by simpa using rv⟩) (fun b u z=>by have z':(none:Option HO)=some u:=z;cases z') (fun b z=>absurd rfl z) fun z=>absurd rfl z
 | none=>
  refine core (fun b=>if b=a then some (.frz { cls:=.type "list",data:=.seq vs.toArray } (.lst (ns.map V.int))) else none) (fun b=>?_) (.inl (.inr ⟨{ cls:=.type "list",data:=.seq vs.toArray },if_pos rfl⟩)) (fun b u z=>?_) (fun b z=>?_) fun _=>hk
  ·by_cases hb:b=a
   ·exact .inr ⟨_,_,if_pos hb⟩
   ·exact .inl (if_neg hb)
  ·by_cases hb:b=a
   ·have z':=(if_pos hb).symm.trans z
    cases z'
    subst hb
    exact⟨ha,by rw[List.length_map];exact hl,vs,_,rv,ha⟩
   ·have z':=(if_neg hb).symm.trans z
    cases z'
  ·by_cases hb:b=a
   ·exact hb
   ·exact absurd (if_neg hb) z
end L2
namespace L2
open PySem PySem.Spec PyProof.Rows
abbrev KOf {K:PySem.W.Frag} {h:Heap} (_:K.In h):PySem.W.Frag:=K
theorem E5 {l:PySem.W.OpenLaw} {n k:Nat} {q:Program} {loose:List Str} {XP:(Str→Option Value)→Heap→Prop} {YP:World→Heap→Prop} {d:DefRec} {K:Params→PySem.W.Frag} {CX:World→CXT} {sp:World→Sp} {x:Str}
  (hn:l.most=some n) (hn2:n≤sizeLine) (hdf:d.params.defaults=[]) (hr:eg k callerA)
  (hY:∀ (w:World) (h:Heap),YP w h→(K w.params).In h)
  (F:∀ (w:World) (mg:Str→Option Value) (fa:Addr) (h:Heap),(K w.params).In h→h.Ns mainGlobals mg→mg d.name=some (.ref fa)→
   ∃ fd:FuncData,(∀ (s:Shared) (u:Value),BindsTo s fd ⟨[u],[]⟩ [(x,u)])∧
    ∀ base:Heap,(K w.params).In base→base.Ns mainGlobals mg→aT l.prog w (K w.params) mg base (CX w) k fa fd [x] (sp w))
  (hsp:∀ (w:World) (H:Hp) (a:Addr) (ns:List Int),ns.length≤n→Jz H→SqL (K w.params) H a (ns.map V.int)→sp w [.ref a] H (fun v _=>v=.bl true) fun _ _ _=>False)
  (hCX:∀ (w:World) (H:Hp) (s:Shared) (e:Value) (s':Shared),CX w [] H s (fun _ _ _=>False) e s'→False) :
  PySem.W.WalkO q loose XP YP l.row.toRowW d [] (fun f vs=>PySem.call f vs):=by
 refine Att.yG hn hdf fun w s₀ s₁ mg mb fa o pm cd doc a vs ns G Y ho hd hcd hmg hobj hints hlen hg=>?_
 have KX:=hY w _ Y
 obtain⟨fd,hb,hF⟩:=F w mg fa _ KX G.T.g hmg
 exact DS KX G.T.g G.T.b G.T.builtins G.T.nolimit hg hobj hints (Nat.le_trans hlen hn2) hr hF hb (fun H hO hS=>hsp w H a ns hlen hO hS) fun H e s'=>hCX w H s₁ e s'
end L2
namespace L2
open PySem PySem.Spec PyProof.Rows
def inClass (s:Stmt) (j:Nat):Stmt:=match s with
 | .ClassDef _ _ _ body _ _ _ _ _ _ _=>body.getD j (.Pass ⟨0,0,0,0⟩)
 | _=>.Pass ⟨0,0,0,0⟩
def ai (s:Stmt):Arguments:=match s with
 | .FunctionDef _ a _ _ _ _ _ _ _ _=>a
 | _=>{ posonlyargs:=[],args:=[],vararg:=none,kwonlyargs:=[],kw_defaults:=[],kwarg:=none,defaults:=[] }
def ah (s:Stmt):List Stmt:=match s with
 | .FunctionDef _ _ b _ _ _ _ _ _ _=>b
 | _=>[]
def ab (s:Stmt):Scope:=match s with
 | .FunctionDef _ _ _ _ _ _ sc _ _ _=>sc
 | _=>{ kind:=.function,names:=[],isGenerator:=false,isCoroutine:=false }
abbrev CX0:CXT:=fun _ _ _ _ _ _=>False
abbrev E0:XK:=fun _ _ _=>False
theorem uM {X:Cx}:Passes CX0 X E0:=fun _ _ _ _ _ _ _ h=>h.elim
structure Fun (K:PySem.W.Frag) (x qual:Str) (st:Stmt) (f:Addr) (fd:FuncData):Prop where
 ex:∃ (oc:Value) (od:Option Addr) (kV doc pm:Value) (an:Option Addr) (cdv ct:Value) (osl:Array (Option Value)),
  fd=PySem.W.fnOf x qual (ai st) (ah st) (ab st) .none kV doc pm an cdv ct∧K.lookup f=some ⟨oc,od,.func fd,osl⟩∧PySem.W.codeIn K cdv qual=true
 kp:PySem.W.keepIn K (.ref f)=true
section
variable {P:Program} {w:World} {K:PySem.W.Frag} {mg:Str→Option Value} {base:Heap}
theorem Fun.ok {x qual:Str} {st:Stmt} {f:Addr} {fd:FuncData} {N ps:List Str} {k:Nat} {sp:Sp} (F:Fun K x qual st f fd) (S:ar N ps (ab st)) (len:∀ vs H Q E,sp vs H Q E→vs.length=ps.length)
  (hbody:∀ (cdv:Value) (A:Around) (outer:List Env) (s:Shared) (H:Hp) (vs:List V) (Q:VK) (E:XK),eg k (A.deeper (envOfC qual (ab st) s.heap.objs.size f cdv))→sp vs H Q E→
   ∃ t,PSs (zX CX0 P w K mg base N qual (ab st) f cdv A outer s H E).nox (ah st) t∧t { nx:=fun _ H'=>Q .non H',rt:=Q } (start N vs) H):aT P w K mg base CX0 (k + 1) f fd ps sp:=by
 obtain⟨oc,od,kV,doc,pm,an,cdv,ct,osl,rfl,lk,hcd⟩:=F.ex
 refine KQ lk hcd S len fun A outer s H vs Q E hr hsp=>?_
 obtain⟨t,h,q⟩:=hbody cdv A outer s H vs Q E hr hsp
 exact⟨t,h.nox,q⟩
theorem Fun.binds {x qual:Str} {st:Stmt} {f:Addr} {fd:FuncData} {ps:List Str} (F:Fun K x qual st f fd)
  (h:∀ (kV doc pm:Value) (an:Option Addr) (cdv ct:Value) (us:List Value),us.length=ps.length→bindArgs (PySem.W.fnOf x qual (ai st) (ah st) (ab st) .none kV doc pm an cdv ct) ⟨us,[]⟩=pure (ps.zip us)):Binds K fd ps []:=by
 obtain⟨oc,od,kV,doc,pm,an,cdv,ct,osl,rfl,lk,hcd⟩:=F.ex
 exact .all (h kV doc pm an cdv ct)
theorem ao {x qual:Str} {st:Stmt} {f:Addr} {oc:Value} {od an:Option Addr} {osl:Array (Option Value)} {kV doc pm cdv ct:Value} (l:K.lookup f=some ⟨oc,od,.func (PySem.W.fnOf x qual (ai st) (ah st) (ab st) .none kV doc pm an cdv ct),osl⟩)
  (c:PySem.W.codeIn K cdv qual=true) (k:PySem.W.keepIn K (.ref f)=true):Fun K x qual st f (PySem.W.fnOf x qual (ai st) (ah st) (ab st) .none kV doc pm an cdv ct):=⟨⟨oc,od,kV,doc,pm,an,cdv,ct,osl,rfl,l,c⟩,k⟩
end
section
variable {X:Cx}
end
theorem zK {A B:Prop} (h:B):if false=true then A else B:=by
 rw[if_neg Bool.false_ne_true]
 exact h
theorem zJ {A B:Prop} (h:A):if true=true then A else B:=by
 rw[if_pos rfl]
 exact h
def aL (H H':Hp):Prop:=∀ b o,H b=some o→H' b=some o
theorem aL.refl (H:Hp):aL H H:=fun _ _ h=>h
theorem aL.trans {H H1 H2:Hp} (a:aL H H1) (b:aL H1 H2):aL H H2:=fun c o h=>b c o (a c o h)
theorem aL.free {H H':Hp} (e:aL H H') {l:Addr} (h:H' l=Option.none):H l=Option.none:=by
 cases q:H l with
 | none=>rfl
 | some o=>
  rw[e l o q] at h
  cases h
theorem aL.seq {K:PySem.W.Frag} {H H':Hp} {a:Addr} {xs:List V} (e:aL H H') (h:SqL K H a xs):SqL K H' a xs:=by
 rcases h with (h | ⟨o,h⟩) | h
 ·exact .inl (.inl (e _ _ h))
 ·exact .inl (.inr ⟨o,e _ _ h⟩)
 ·exact .inr h
section
variable {κ:Type} [DecidableEq κ]
end
end L2
namespace L2
open PySem PySem.Spec PyProof.Rows
def takes (cells:List (Str×Addr)):List (Str×NameKind)→List (Str×Addr)→List (Str×Addr)
 | [],acc=>acc
 | (n,k)::r,acc=>takes cells r (if k=NameKind.free then (n,(cells.lookup n).getD 0)::acc else acc)
theorem um {sc:Scope} {env:Env} (h:∀ y∈sc.names,y.2=.free→∃ c,env.cells.lookup y.1=some c):closureFor sc env=pure (takes env.cells sc.names []):=by
 have go:∀ (l:List (Str×NameKind)) (acc:List (Str×Addr)),(∀ y∈l,y.2=.free→∃ c,env.cells.lookup y.1=some c)→
   (forIn l acc (fun (x:Str×NameKind) (cs:List (Str×Addr))=>match x with
    | (name,kind)=>if (kind == NameKind.free)=true then do let c ← cellOf env name;pure (ForInStep.yield ((name,c)::cs)) else pure (ForInStep.yield cs)):Sem (List (Str×Addr)))=pure (takes env.cells l acc):=by
  intro l
  induction l with
  | nil=>intro acc _;rfl
  | cons x l ih=>
   intro acc hl
   obtain⟨n,k⟩:=x
   rw[List.forIn_cons]
   by_cases hk:k=NameKind.free
   ·subst hk
    obtain⟨c,hc⟩:=hl (n,.free) List.mem_cons_self rfl
    have hc':env.cells.lookup n=some c:=hc
    have e1:cellOf env n=pure c:=by unfold cellOf;rw[hc']
    have e2:takes env.cells ((n,NameKind.free)::l) acc=takes env.cells l ((n,c)::acc):=by
     show takes env.cells l (if NameKind.free=NameKind.free then (n,(env.cells.lookup n).getD 0)::acc else acc)=_
     rw[if_pos rfl,hc']
     rfl
    rw[e2,← ih ((n,c)::acc) fun y hy=>hl y (List.mem_cons_of_mem _ hy)]
    show ((if (NameKind.free == NameKind.free)=true then (do let c ← cellOf env n;pure (ForInStep.yield ((n,c)::acc))) else pure (ForInStep.yield acc)) >>= _)=_
    rw[if_pos (by decide),e1,pure_bind,pure_bind]
   ·have e2:takes env.cells ((n,k)::l) acc=takes env.cells l acc:=by
     show takes env.cells l (if k=NameKind.free then _ else acc)=_
     rw[if_neg hk]
    have hb:(k == NameKind.free)=false:=by simpa using hk
    rw[e2,← ih acc fun y hy=>hl y (List.mem_cons_of_mem _ hy)]
    show ((if (k == NameKind.free)=true then _ else pure (ForInStep.yield acc)) >>= _)=_
    rw[hb,if_neg Bool.false_ne_true,pure_bind]
 have:=go sc.names [] h
 unfold closureFor
 first
  | exact(congrArg (fun z=>z >>= fun cs=>pure cs) this).trans (pure_bind _ _)
  | exact this
  | simpa using this
theorem uD {cells:List (Str×Addr)} {n:Str} {c:Addr}:∀ (names:List (Str×NameKind)) (acc:List (Str×Addr)),(takes cells names acc).lookup n=some c→
  acc.lookup n=some c∨((n,NameKind.free)∈names∧c=(cells.lookup n).getD 0)
 | [],_,h=>.inl h
 | (m,k)::r,acc,h=>by
  rcases uD r _ h with q | ⟨q1,q2⟩
  ·by_cases hk:k=NameKind.free
   ·rw[if_pos hk] at q
    subst hk
    by_cases e:n=m
    ·subst e
     rw[List.lookup_cons,beq_self_eq_true] at q
     exact .inr ⟨List.mem_cons_self,(Option.some.inj q).symm⟩
    ·have:(n == m)=false:=by simpa using e
     rw[List.lookup_cons,this] at q
     exact .inl q
   ·rw[if_neg hk] at q
    exact .inl q
  ·exact .inr ⟨List.mem_cons_of_mem _ q1,q2⟩
theorem uE {cells:List (Str×Addr)} {n:Str}:∀ (names:List (Str×NameKind)) (acc:List (Str×Addr)),(acc.lookup n).isSome=true→((takes cells names acc).lookup n).isSome=true
 | [],_,h=>h
 | (m,k)::r,acc,h=>by
  refine uE r _ ?_
  by_cases hk:k=NameKind.free
  ·rw[if_pos hk]
   cases e:n == m with
   | true=>rw[List.lookup_cons,e];rfl
   | false=>rw[List.lookup_cons,e];exact h
  ·rw[if_neg hk];exact h
theorem pN {cells:List (Str×Addr)} {n:Str}:∀ (names:List (Str×NameKind)) (acc:List (Str×Addr)),(n,NameKind.free)∈names→((takes cells names acc).lookup n).isSome=true
 | [],_,h=>by simp at h
 | (m,k)::r,acc,h=>by
  rcases List.mem_cons.mp h with e | h
  ·cases e
   refine uE r _ ?_
   rw[if_pos rfl,List.lookup_cons,beq_self_eq_true]
   rfl
  ·exact pN r _ h
structure Blk (N:List Str) (osc sc:Scope) (Nc:List Str) (fr:List (Option Nat)):Prop where
 kind:sc.kind=.function
 nocell:∀ y∈sc.names,y.2≠.cell
 free:∀ y∈sc.names,y.2=.free→osc.names.lookup y.1=some .cell∨osc.names.lookup y.1=some .free
 locs:∀ y∈sc.names,y.2=.local→sc.names.lookup y.1=some .local
 nd:Nc.Nodup
 len:Nc.length=fr.length
 whence:∀ p∈Nc.zip fr,(p.2.all fun j=>decide (N[j]?=some p.1) && decide (sc.names.lookup p.1=some .free))=true
abbrev bS (X:Cx) (sc:Scope) (Nc:List Str) (s₀:Shared) (H₀:Hp) (C:Addr) (ex:List Addr) (pn:List (Addr×Obj)):Cx where
 prog:=X.prog
 w:=X.w
 K:=X.K
 mg:=X.mg
 base:=X.base
 A:=X.A
 N:=Nc
 s₀:=s₀
 H₀:=H₀
 env:=compEnvC sc (takes X.env.cells sc.names []) C X.env
 outer:=X.stack
 stack:=X.stack
 ex:=ex
 fn:=fun _=>false
 calm:=X.calm
 pn:=pn
 xe:=fun _ _=>False
def mB (fr:List (Option Nat)) (σ:St):St:=fr.map fun o=>o.bind fun j=>(σ[j]?).join
def HC (J:It) (g:TG) (te:TE) (σ0:St) (H1:Hp) (Q:VK):Prop:=
 ∃ W:Nat→Nat→List V→St→Hp→Prop,(∃ m,W 0 m [] σ0 H1)∧∀ i m ys σc H,W i m ys σc H→ys.length < sizeLine∧
  ((J.stop i H∧∀ l,H l=none→Q (.ref l) (upd H l (.lst ys)))∨
   (J.go i H∧∀ x H',J.yld i H x H'→g x σc H' fun σ2 H2=>∃ N:VK,(∀ y H3,N y H3→∃ m',m' < m∧W (i + 1) m' (ys++[y]) σ2 H3)∧te σ2 H2 N))
def xv (fr:List (Option Nat)) (wi:TI) (g:TG) (te:TE):TE:=fun σ H Q=>wi σ H fun J H1=>HC J g te (mB fr σ) H1 Q
theorem lG {sc:Scope} {env:Env} {x:Str} {k:NameKind} (h:(relabel sc env).names.lookup x=some k):sc.names.lookup x=some k∨(k=.cell∧sc.names.lookup x=some .free):=by
 have go:∀ l:List (Str×NameKind),(l.map fun (n,k)=>if (k == NameKind.free && env.scope.kind == .function && env.kindOf n == some .cell) then (n,NameKind.cell) else (n,k)).lookup x=some k→l.lookup x=some k∨(k=.cell∧l.lookup x=some .free):=by
  intro l
  induction l with
  | nil=>intro h;simp at h
  | cons p r ih=>
   intro h
   obtain⟨n,k'⟩:=p
   rw[List.map_cons] at h
   by_cases hc:(k' == NameKind.free && env.scope.kind == .function && env.kindOf n == some .cell)=true
   ·have h2:List.lookup x ((n,NameKind.cell)::r.map fun (n,k)=>if (k == NameKind.free && env.scope.kind == .function && env.kindOf n == some .cell) then (n,NameKind.cell) else (n,k))=some k:=by
     have h3:=h
     simp only[hc,if_true] at h3
     exact h3
    have hk:k'=.free:=by
     simp only[Bool.and_eq_true] at hc
     simpa using hc.1.1
    subst hk
    cases hx:x == n with
    | true=>
     rw[List.lookup_cons,hx] at h2
     rw[List.lookup_cons,hx]
     cases h2
     exact .inr ⟨rfl,rfl⟩
    | false=>
     rw[List.lookup_cons,hx] at h2
     rw[List.lookup_cons,hx]
     exact ih h2
   ·have hc':(k' == NameKind.free && env.scope.kind == .function && env.kindOf n == some .cell)=false:=by simpa using hc
    have h2:List.lookup x ((n,k')::r.map fun (n,k)=>if (k == NameKind.free && env.scope.kind == .function && env.kindOf n == some .cell) then (n,NameKind.cell) else (n,k))=some k:=by
     have h3:=h
     simp only[hc',Bool.false_eq_true,if_false] at h3
     exact h3
    cases hx:x == n with
    | true=>
     rw[List.lookup_cons,hx] at h2
     rw[List.lookup_cons,hx]
     exact .inl h2
    | false=>
     rw[List.lookup_cons,hx] at h2
     rw[List.lookup_cons,hx]
     exact ih h2
 exact go _ h
theorem vN {sc:Scope} {env:Env} {x:Str} (h:sc.names.lookup x=some .free):(relabel sc env).names.lookup x=some .cell∨(relabel sc env).names.lookup x=some .free:=by
 have go:∀ l:List (Str×NameKind),l.lookup x=some .free→(l.map fun (n,k)=>if (k == NameKind.free && env.scope.kind == .function && env.kindOf n == some .cell) then (n,NameKind.cell) else (n,k)).lookup x=some .cell∨(l.map fun (n,k)=>if (k == NameKind.free && env.scope.kind == .function && env.kindOf n == some .cell) then (n,NameKind.cell) else (n,k)).lookup x=some .free:=by
  intro l
  induction l with
  | nil=>intro h;simp at h
  | cons p r ih=>
   intro h
   obtain⟨n,k'⟩:=p
   rw[List.map_cons]
   by_cases hc:(k' == NameKind.free && env.scope.kind == .function && env.kindOf n == some .cell)=true
   ·simp only[hc,if_true]
    cases hx:x == n with
    | true=>left;simp [List.lookup_cons,hx]
    | false=>
     rw[List.lookup_cons,hx] at h
     simp only[List.lookup_cons,hx]
     exact ih h
   ·have hc':(k' == NameKind.free && env.scope.kind == .function && env.kindOf n == some .cell)=false:=by simpa using hc
    simp only[hc',Bool.false_eq_true,if_false]
    cases hx:x == n with
    | true=>
     rw[List.lookup_cons,hx] at h
     right
     simp only[List.lookup_cons,hx]
     exact h
    | false=>
     rw[List.lookup_cons,hx] at h
     simp only[List.lookup_cons,hx]
     exact ih h
 exact go _ h
section
variable {X:Cx} {pins:List (Addr×Obj)} {σ:St}
theorem iH {sc:Scope} {Nc:List Str} {fr:List (Option Nat)} (B:Blk X.N X.env.scope sc Nc fr) (ok:X.Ok) {n:Str} {c:Addr} (h:(takes X.env.cells sc.names []).lookup n=some c):X.env.cells.lookup n=some c:=by
 rcases uD _ _ h with q | ⟨q1,q2⟩
 ·simp at q
 ·obtain⟨c',hc'⟩:=ok.has n (B.free _ q1 rfl)
  rw[hc'] at q2
  rw[hc',q2]
  rfl
theorem fV {n:Str} {k:NameKind}:∀ {l:List (Str×NameKind)},l.lookup n=some k→(n,k)∈l:=fun h=>PySem.mem_of_lookup h
theorem EI {sc:Scope} {Nc:List Str} {fr:List (Option Nat)} (B:Blk X.N X.env.scope sc Nc fr) {s₀:Shared} {H₀:Hp} {C:Addr} {ex:List Addr} {pn:List (Addr×Obj)} (I:Inv X pins σ H₀ s₀) (hC:s₀.heap.objs.size≤C)
  (hex:∀ b∈ex,b < s₀.heap.objs.size∧b∉X.fs∧b≠X.env.locals∧(∀ x c,X.env.cells.lookup x=some c→c≠b)∧∀ o,X.base.get? b≠some o):(bS X sc Nc s₀ H₀ C ex pn).Ok where
 mod:=I.ok.mod
 kind:=B.kind
 glob:=I.ok.glob
 blt:=I.ok.blt
 above:=hC
 inj:=fun x y c h1 h2=>I.ok.inj x y c (iH B I.ok h1) (iH B I.ok h2)
 has:=fun x hx=>by
  have hf:sc.names.lookup x=some .free:=by
   rcases hx with hx | hx
   ·rcases lG hx with q | ⟨_,q⟩
    ·exact absurd rfl (B.nocell _ (fV q))
    ·exact q
   ·rcases lG hx with q | ⟨_,q⟩
    ·exact q
    ·exact q
  exact Option.isSome_iff_exists.mp (pN _ _ (fV hf))
 cab:=fun x c h=>by cases (show false=true from h)
 hd:=I.ok.hd
 frames:=I.ok.frames
 stk:=.inl rfl
 exf:=fun b hb=>⟨fun e=>by have:=(hex b hb).1;rw[e] at this;exact absurd (Nat.lt_of_lt_of_le this hC) (Nat.lt_irrefl _),fun x c h=>(hex b hb).2.2.2.1 x c (iH B I.ok h)⟩
 bs:=fun b o e=>I.bs b o e
 bsz:=Nat.le_trans I.ok.bsz I.sz
 noex:=fun b o e hb=>(hex b hb).2.2.2.2 o e
 exfs:=fun b hb hf=>by
  rcases List.mem_cons.mp (I.vt b hf) with e | e
  ·exact(hex b hb).2.2.1 e
  ·exact(hex b hb).2.1 e
 p7:=I.stack
 frf:=fun b hb=>I.Aj b hb
end
end L2
namespace L2
open PySem PySem.Spec PyProof.Rows
section
variable {X:Cx}
abbrev cL (us:List Value) (n:Nat):Obj:={ cls:=.type "list",data:=.seq us.toArray n }
theorem zE {α:Type} {Nc:List Str} {fr:List α} {i:Nat} {x:Str} {o:α} (h1:Nc[i]?=some x) (h2:fr[i]?=some o):(x,o)∈Nc.zip fr:=by
 have h3:(Nc.zip fr)[i]?=some (x,o):=by
  rw[List.getElem?_zip_eq_some]
  exact⟨h1,h2⟩
 exact List.mem_of_getElem? h3
theorem A6 {pins:List (Addr×Obj)} {σ:St} {sc:Scope} {Nc:List Str} {fr:List (Option Nat)} (B:Blk X.N X.env.scope sc Nc fr) {s₀ s₄:Shared} {H₀:Hp} {C D:Addr} {o:Obj} {ex:List Addr} {mC:Str→Option Value}
  (ok:(bS X sc Nc s₀ H₀ C ex (X.pn++pins)).Ok) (I:Inv X pins σ H₀ s₀) (hC:s₀.heap.objs.size≤C) (ho:s₄.os=s₀.os) (hg:s₄.gens=s₀.gens) (hk:∀ b u,s₀.heap.get? b=some u→s₄.heap.get? b=some u) (hn:s₄.heap.Ns C mC)
  (hD:s₀.heap.get? D=some o) (hDH:H₀ D=none) (hDL:D≠X.env.locals) (hDf:D∉X.fs) (hDc:∀ v,o.data≠.cell v) :
  Inv (bS X sc Nc s₀ H₀ C ex (X.pn++pins)) [(D,o)] (mB fr σ) H₀ s₄:=by
 have stk:∀ b,b≠X.env.locals→b∉X.fs→b∉frs X.stack:=fun b h1 h2 h3=>by
  rcases List.mem_cons.mp (I.vt b h3) with e | e
  ·exact h1 e
  ·exact h2 e
 have ltC:∀ {b:Addr} {u:Obj},s₀.heap.get? b=some u→b≠C:=fun e z=>absurd (Nat.lt_of_lt_of_le (Heap.lt_size e) (by rw[z];exact hC)) (Nat.lt_irrefl _)
 refine⟨ok,ho,by rw[hg];exact I.bare,Un.kept hk,⟨mC,hn,fun i x v h1 h2 h3=>?_⟩,fun x c h=>?_,I.hok.fresh hC,fun x c h=>?_,fun p hp=>?_,I.hok.kept hk,?_⟩
 ·have h2':(fr.map fun o=>o.bind fun j=>(σ[j]?).join)[i]?=some (some v):=h2
  rw[List.getElem?_map] at h2'
  cases ef:fr[i]? with
  | none=>rw[ef] at h2';cases h2'
  | some oj=>
   rw[ef] at h2'
   have h4:(oj.bind fun j=>(σ[j]?).join)=some v:=Option.some.inj h2'
   cases oj with
   | none=>cases h4
   | some j=>
    have hz:=B.whence _ (zE h1 ef)
    have hz':(decide (X.N[j]?=some x) && decide (sc.names.lookup x=some .free))=true:=hz
    rw[Bool.and_eq_true] at hz'
    have e1:X.N[j]?=some x:=of_decide_eq_true hz'.1
    have e2:sc.names.lookup x=some .free:=of_decide_eq_true hz'.2
    have h5:σ[j]?=some (some v):=by
     have h6:(σ[j]?).join=some v:=h4
     cases e3:σ[j]? with
     | none=>rw[e3] at h6;cases h6
     | some y=>rw[e3] at h6;exact congrArg some h6
    have hkd:=B.free _ (fV e2) rfl
    obtain⟨m,hm,hl⟩:=I.loc
    have vis:Vis X.env.scope x:=by rcases hkd with k | k;exact .inr (.inl k);exact .inr (.inr k)
    obtain⟨u,r,l⟩:=hl j x v e1 h5 vis
    refine⟨u,r,.inr ⟨vN e2,?_⟩⟩
    rcases l with ⟨k,_⟩ | ⟨_,c,hc,hcell⟩
    ·have k':X.env.scope.names.lookup x=some .local:=k
     rcases hkd with q | q
     ·rw[q] at k';cases k'
     ·rw[q] at k';cases k'
    ·obtain⟨c',hc'⟩:=Option.isSome_iff_exists.mp (pN (cells:=X.env.cells) sc.names [] (fV e2))
     have hc2:=iH B I.ok hc'
     rw[hc] at hc2
     cases hc2
     obtain⟨oc,ho1,ho2⟩:=hcell
     exact⟨c,hc',oc,hk _ _ ho1,ho2⟩
 ·obtain⟨v,oc,h1,h2⟩:=I.cell x c (iH B I.ok h)
  exact⟨v,oc,hk _ _ h1,h2⟩
 ·exact I.freeC x c (iH B I.ok h)
 ·rcases List.mem_append.mp hp with hp | hp
  ·obtain⟨e1,e2,e3,e4,e5⟩:=I.pin p hp
   exact⟨hk _ _ e1,e2,ltC e1,stk _ e3 e4,e5⟩
  ·have e:p=(D,o):=by simpa using hp
   subst e
   exact⟨hk _ _ hD,hDH,ltC hD,stk _ hDL hDf,hDc⟩
 ·show (fr.map _).length=Nc.length
  rw[List.length_map,B.len]
abbrev RunsTo (prog : Program) (w : World) (A : Around) {α : Type} (c : Sem α) (t : Shared) (Q : α → Shared → Prop) : Prop := wpAny (model prog w) A c Q (fun _ _ => False) t
theorem RunsTo.go {prog : Program} {w : World} {A : Around} {α : Type} {c : Sem α} {t : Shared} {Q Q' : α → Shared → Prop} {E : Value → Shared → Prop} (h : RunsTo prog w A c t Q) (f : ∀ a u, Q a u → Q' a u) : wpAny (model prog w) A c Q' E t := wpAny_mono h f fun _ _ z => z.elim
theorem wY {prog : Program} {w : World} {A : Around} {R : Result → Shared → Prop} {s : Shared} {elt tg iter : Expr} {sc : Scope} {pos : Pos} {it acc : Value} {env : Env} (J : Nat → Shared → Prop)
    (one : ∀ k t, J k t → RunsTo prog w A (pyNext it) t fun r t1 => match r with
      | none => R (.ok .next) t1
      | some v => RunsTo prog w A (letOwnedTupleGo tg it v) t1 fun _ t2 => RunsTo prog w A (assign tg env v) t2 fun _ t3 => RunsTo prog w A (eval elt env) t3 fun x t4 =>
          RunsTo prog w A (call (.builtin "list.append") [acc, x]) t4 fun _ t5 => ∃ j, j < k ∧ J j t5)
    (k : Nat) (h : J k s) : codeAny (model prog w) A (.compLoop (.ListComp elt [⟨tg, iter, [], 0⟩] sc pos) 0 it acc env) R s :=
  PySem.W.kcp_loop J (fun k t hJ => (one k t hJ).go fun r t1 q => match r, q with
    | none, q => q
    | some _, q => RunsTo.go q fun _ _ q => RunsTo.go q fun _ _ q => RunsTo.go q fun _ _ q => RunsTo.go q fun _ _ q => q) k h
theorem tE {elt iter tg:Expr} {sc:Scope} {pos:Pos} {Nc:List Str} {fr:List (Option Nat)} {g:TG} {te:TE} (B:Blk X.N X.env.scope sc Nc fr) (hc:X.calm=true)
  (hg:∀ s₀ H₀ C ex pn,PG (bS X sc Nc s₀ H₀ C ex pn) tg g) (he:∀ s₀ H₀ C ex pn,PE (bS X sc Nc s₀ H₀ C ex pn) elt te)
  {pins:List (Addr×Obj)} {σ:St} {s2:Shared} {H2:Hp} {it:Addr} {fp:List Addr} {tn:Nat→Heap→Prop} {J:It} (I2:Inv X pins σ H2 s2) (T:Turn X.prog X.w X.K tg J fp it tn) (st2:tn 0 s2.heap) (f2:∀ b∈fp,gJ X pins H2 b)
  {Q:VK} (cw:HC J g te (mB fr σ) H2 Q) {RR:Value→Addr→Result→Shared→Prop} {E:Value→Shared→Prop}
  (hRR:∀ D C s' H',Inv X pins σ H' s'→(∃ m,s'.heap.Ns C m)→gJ X pins H' C→Q (.ref D) H'→RR (.ref D) C (.ok .next) s') :
  wpAny (model X.prog X.w) X.A (newList []) (fun acc s₃=>wpAny (model X.prog X.w) X.A (newFunctionEnv sc X.env.globals (takes X.env.cells sc.names []) [] X.env.qual none .none (some X.env)) (fun cenv s₄=>
   codeAny (model X.prog X.w) X.A (.compStart (.ListComp elt [⟨tg,iter,[],0⟩] sc pos) 0 (.ref it) acc { cenv with scope:=relabel sc X.env }) (RR acc cenv.locals) s₄) E s₃) E s2:=by
 obtain⟨W,⟨m0,w0⟩,turn⟩:=cw
 refine wpAny_newObj_type (wpAny_newFunctionEnv B.nocell (by intro y hy;simp at hy) (fun h₁ hns₁ hsb₁=>?_) B.kind)
 dsimp only at hns₁ hsb₁ ⊢
 generalize hH2:s2.heap.push { cls:=.type "list",dict:=none,data:=.seq ([]:List Value).toArray }=hp at hns₁ hsb₁ ⊢
 have hCs:hp.objs.size=s2.heap.objs.size + 1:=by rw[← hH2,Heap.size_push]
 generalize hCe:hp.objs.size=C at hns₁ hsb₁ ⊢
 generalize hDe:s2.heap.objs.size=D at hCs ⊢
 have hDC:D≠C:=by rw[← hCe,hCs];exact Nat.ne_of_lt (Nat.lt_succ_self _)
 have up:∀ b o,s2.heap.get? b=some o→hp.get? b=some o:=fun b o e=>by rw[← hH2];exact Heap.get?_push_of_some _ e
 have hDp:hp.get? D=some (cL [] 0):=by rw[← hH2,← hDe];exact Heap.get?_push_size _ rfl
 have I3:Inv X pins σ H2 { s2 with heap:=hp }:=I2.kept (t':=s2.toks) up
 have hD0:H2 D=none:=I2.hok.fresh (by rw[hDe];exact Nat.le_refl _)
 have fD:gJ X pins H2 D:=I2.p8 (by rw[hDe];exact Nat.le_refl _) hD0
 have fpo:∀ b∈fp,∃ o,s2.heap.get? b=some o∧∀ v,o.data≠.cell v:=T.obj 0 _ st2
 have fplt:∀ b∈fp,b < D:=fun b hb=>by obtain⟨o,e,_⟩:=fpo b hb;rw[← hDe];exact Heap.lt_size e
 have hDfp:D∉fp:=fun hb=>Nat.lt_irrefl _ (fplt D hb)
 have hCfp:C∉fp:=fun hb=>by have:=fplt C hb;rw[← hCe,hCs] at this;exact absurd (Nat.lt_of_succ_lt this) (Nat.lt_irrefl _)
 have nobase:∀ b,(b∈X.ex∨X.s₀.heap.objs.size≤b)→∀ o,X.base.get? b≠some o:=fun b h o e=>by
  rcases h with h | h
  ·exact I2.ok.noex b o e h
  ·exact absurd (Nat.lt_of_lt_of_le (Heap.lt_size e) (Nat.le_trans I2.ok.bsz h)) (Nat.lt_irrefl _)
 have hex:∀ b∈D::fp,b < hp.objs.size∧b∉X.fs∧b≠X.env.locals∧(∀ x c,X.env.cells.lookup x=some c→c≠b)∧∀ o,X.base.get? b≠some o:=fun b hb=>by
  have fb:gJ X pins H2 b:=by
   rcases List.mem_cons.mp hb with e | hb
   ·rw[e];exact fD
   ·exact f2 b hb
  refine⟨?_,fb.2.2.1,fb.2.1,fb.2.2.2.2.1,nobase b fb.2.2.2.1⟩
  rcases List.mem_cons.mp hb with e | hb
  ·rw[e,hCs];exact Nat.lt_succ_self _
  ·rw[hCs];exact Nat.lt_succ_of_lt (fplt b hb)
 have hCle:hp.objs.size≤C:=by rw[hCe];exact Nat.le_refl _
 have ok:(bS X sc Nc { s2 with heap:=hp } H2 C (D::fp) (X.pn++pins)).Ok:=EI B I3 hCle hex
 have old:∀ b u,hp.get? b=some u→h₁.get? b=some u:=fun b u e=>by
  have hb:b≠C:=by rw[← hCe];exact Nat.ne_of_lt (Heap.lt_size e)
  exact(hsb₁.2 b hb).trans (Heap.get?_push_of_some _ e)
 have J0:Inv (bS X sc Nc { s2 with heap:=hp } H2 C (D::fp) (X.pn++pins)) [(D,cL [] 0)] (mB fr σ) H2 { s2 with heap:=h₁,toks:=s2.toks + ([]:List (Str×Value)).length }:=
  A6 B ok I3 hCle rfl rfl old hns₁ hDp hD0 fD.2.1 fD.2.2.1 (fun v z=>by cases z)
 have fpY:∀ {H':Hp} {u:Obj},(∀ b∈fp,H' b=none)→∀ b∈fp,gJ (bS X sc Nc { s2 with heap:=hp } H2 C (D::fp) (X.pn++pins)) [(D,u)] H' b:=fun {H' u} hn b hb=>
  ⟨hn b hb,fun e=>hCfp (by have e':b=C:=e;rw[← e'];exact hb),ok.exfs b (List.mem_cons_of_mem _ hb),.inl (List.mem_cons_of_mem _ hb),(ok.exf b (List.mem_cons_of_mem _ hb)).2,fun p hp'=>by
   rcases List.mem_append.mp hp' with q | q
   ·exact(f2 b hb).2.2.2.2.2 p q
   ·have e:p=(D,u):=by simpa using q
    rw[e]
    exact fun z=>hDfp (by have z':D=b:=z;rw[z'];exact hb)⟩
 have cellY:∀ {x:Str} {c:Addr},(takes X.env.cells sc.names []).lookup x=some c→c≠D:=fun h=>(ok.exf D List.mem_cons_self).2 _ _ h
 have loop:codeAny (model X.prog X.w) X.A (.compLoop (.ListComp elt [⟨tg,iter,[],0⟩] sc pos) 0 (.ref it) (.ref D) (compEnvC sc (takes X.env.cells sc.names []) C X.env)) (RR (.ref D) C) { s2 with heap:=h₁,toks:=s2.toks + ([]:List (Str×Value)).length }:=by
  refine wY (fun n s'=>∃ (i:Nat) (ys:List V) (us:List Value) (σc:St) (H':Hp),Inv (bS X sc Nc { s2 with heap:=hp } H2 C (D::fp) (X.pn++pins)) [(D,cL us us.length)] σc H' s'∧Vals ys us∧tn i s'.heap∧(∀ b∈fp,H' b=none)∧W i n ys σc H')
   ?_ m0 ⟨0,[],[],_,H2,J0,.nil,T.keep _ _ _ st2 (fun b _ o e=>old b o (up b o e)),fun b hb=>(f2 b hb).1,w0⟩
  rintro n s3 ⟨i,ys,us,σ3,H3,I3',rv,st3,fr3,w3⟩
  obtain⟨hsz,hcase⟩:=turn i n ys σ3 H3 w3
  rcases hcase with ⟨stop,qn⟩ | ⟨go,step⟩
  ·refine thn (T.done (bS X sc Nc { s2 with heap:=hp } H2 C (D::fp) (X.pn++pins)) rfl rfl rfl hc i _ s3 σ3 H3 _ I3' (fpY fr3) st3 stop) fun r s4 ⟨hr,I4⟩=>?_
   subst hr
   obtain⟨pD,pH,_,_,_⟩:=I4.pin (D,cL us us.length) (List.mem_append_right _ List.mem_cons_self)
   obtain⟨mC',hnC,_⟩:=I4.loc
   have un:Un (frs X.stack) fp H2 (upd H3 D (.lst ys)) s2.heap s4.heap:=by
    have u0:Un (frs X.stack) (D::fp) H2 H3 hp s4.heap:=I4.base
    have neD:∀ {b:Addr} {o:Obj},s2.heap.get? b=some o→b≠D:=fun e=>by rw[← hDe];exact Nat.ne_of_lt (Heap.lt_size e)
    have nx:∀ {b:Addr} {o:Obj},s2.heap.get? b=some o→b∉fp→b∉D::fp:=fun e h1 h2=>by
     rcases List.mem_cons.mp h2 with z | z
     ·exact neD e z
     ·exact h1 z
    have neT:∀ {b:Addr} {o:HO},H2 b=some o→b≠D:=fun e z=>by rw[z,hD0] at e;cases e
    exact⟨fun b o e n hb hx=>u0.keep b o (up b o e) n hb (nx e hx),fun b o e n hb hx=>u0.slot b o (up b o e) n hb (nx e hx),fun b o e n hx=>by rw[au (neD e)];exact u0.free b o (up b o e) n (nx e hx),
     fun b o e hx=>u0.there b o (up b o e) (nx e hx),fun b xs e=>by rw[au (neT e)];exact u0.tups b xs e,fun b o xs e=>by rw[au (neT e)];exact u0.frzs b o xs e,fun b ps e=>by rw[au (neT e)];exact u0.tbls b ps e⟩
   have hok:HOk X.prog X.w (upd H3 D (.lst ys)) s4.heap:=fun b u e=>by
    by_cases hb:b=D
    ·subst hb
     rw[aN] at e
     cases e
     exact⟨Nat.le_of_lt hsz,us,us.length,rv,pD⟩
    ·rw[au hb] at e
     refine(I4.hok b u e).t7 (fun c v _ q=>q) (fun c q=>?_) fun c xs q=>?_
     ·rw[au (fun z=>by rw[z] at q;rw[show H3 D=none from pH] at q;cases q)];exact q
     ·rw[au (fun z=>by rw[z] at q;rw[show H3 D=none from pH] at q;cases q)];exact q
   have I5:Inv X pins σ (upd H3 D (.lst ys)) s4:=I2.Hx I4.os un hok I4.bare fun b hb=>⟨(f2 b hb).2.2.2.1,(f2 b hb).2.1,(f2 b hb).2.2.2.2.1,(f2 b hb).2.2.2.2.2⟩
   refine hRR D C s4 _ I5 ⟨mC',hnC⟩ ?_ (qn D pH)
   have hC2:s2.heap.objs.size≤C:=by rw[hDe,← hCe,hCs];exact Nat.le_succ _
   refine I2.p8 hC2 ?_
   rw[au (Ne.symm hDC)]
   exact I4.free
  ·refine thn (T.item (bS X sc Nc { s2 with heap:=hp } H2 C (D::fp) (X.pn++pins)) rfl rfl rfl hc i _ s3 σ3 H3 _ I3' (fpY fr3) st3 go) fun r s4 ⟨u,hr,h4⟩=>?_
   subst hr
   refine thn h4 fun _ s5 ⟨x,H5,I5,r5,y5,st5,fr5⟩=>?_
   have I5':=I5.pinned (fpY fr5) (T.obj _ _ st5)
   refine thn (hg _ _ _ _ _ _ s5 σ3 H5 x u _ I5' r5 (step x H5 y5)) fun _ s6 ⟨σ6,H6,I6,N,hN,q6⟩=>?_
   refine thn (he _ _ _ _ _ _ s6 σ6 H6 _ I6 q6) fun y s7 ⟨yv,H7,I7,r7,q7⟩=>?_
   obtain⟨pD,pH,pL,pF,pc⟩:=I7.pin (D,cL us us.length) (List.mem_append_right _ (List.mem_append_left _ List.mem_cons_self))
   have hlen:us.length=ys.length:=rv.length.symm
   refine append_at (hsz:=by rw[List.size_toArray,hlen];exact Nat.le_of_lt hsz) pD fun h8 sb8 hD8=>?_
   obtain⟨m',hm,w8⟩:=hN yv H7 q7
   have st7:tn (i + 1) s7.heap:=T.keep _ _ _ st5 fun b hb o e=>(I7.pin (b,o) (List.mem_append_right _ (List.mem_append_right _ (gy hb e)))).1
   have fr7:∀ b∈fp,H7 b=none:=fun b hb=>by
    obtain⟨o,e,d⟩:=T.obj _ _ st5 b hb
    exact(I7.pin (b,o) (List.mem_append_right _ (List.mem_append_right _ (gy hb e)))).2.1
   have I7n:Inv (bS X sc Nc { s2 with heap:=hp } H2 C (D::fp) (X.pn++pins)) [] σ6 H7 s7:=I7.j9 fun p z=>absurd z (by simp)
   have I8:Inv (bS X sc Nc { s2 with heap:=hp } H2 C (D::fp) (X.pn++pins)) [] σ6 H7 { s7 with heap:=h8 }:=
    I7n.turned (t':=s7.toks) (it:=D) (fun b o hb e=>(sb8.2 b hb).trans e) pH pL (.inl List.mem_cons_self) (fun x c e=>(ok.exf D List.mem_cons_self).2 x c e) fun p hp'=>by
     have hp2:p∈X.pn++pins:=by simpa using hp'
     exact fD.2.2.2.2.2 p hp2
   have e8:h8.get? D=some (cL (us++[y]) (us++[y]).length):=by
    rw[hD8]
    simp
   refine⟨m',hm,i + 1,ys++[yv],us++[y],σ6,H7,I8.j9 fun p z=>?_,rv.append (.cons r7 .nil),T.keep _ _ _ st7 fun b hb o e=>(sb8.2 b fun z=>hDfp (by rw[← z];exact hb)).trans e,fr7,w8⟩
   have e:p=(D,cL (us++[y]) (us++[y]).length):=by simpa using z
   subst e
   exact⟨e8,pH,pL,pF,fun v z=>by cases z⟩
 exact codeAny_compStart_list loop (wpAny_mono (T.self X.A 0 _ _ (fun _ _=>False) (T.keep _ _ _ st2 (fun b _ o e=>old b o (up b o e))) loop) (fun _ _ h=>h) fun _ _ h=>h.elim)
theorem w5 {pins:List (Addr×Obj)} {σ:St} {H:Hp} {s:Shared} {sc:Scope} {Nc:List Str} {fr:List (Option Nat)} (B:Blk X.N X.env.scope sc Nc fr) (I:Inv X pins σ H s):closureFor sc X.env=pure (takes X.env.cells sc.names []):=
 um fun y hy hf=>I.ok.has y.1 (B.free y hy hf)
theorem FF {elt iter tg:Expr} {sc:Scope} {pos:Pos} {Nc:List Str} {fr:List (Option Nat)} {wi:TI} {g:TG} {te:TE} (hc:X.calm=true) (hi:PI X tg iter wi) (B:Blk X.N X.env.scope sc Nc fr)
  (hg:∀ s₀ H₀ C ex pn,PG (bS X sc Nc s₀ H₀ C ex pn) tg g) (he:∀ s₀ H₀ C ex pn,PE (bS X sc Nc s₀ H₀ C ex pn) elt te) (hs:∀ x,foldedSetIterable iter X.env x=pure x:=by intro _;rfl) :
  PE X (.ListComp elt [⟨tg,iter,[],0⟩] sc pos) (xv fr wi g te):=by
 intro pins s σ H Q I h
 rw[eval_ListComp]
 refine wpAny_comprehension_free (use:=none) rfl hs (w5 B I) B.kind B.locs (thn (hi pins s σ H _ I h) fun v s1 h1=>thn h1 fun itv s2 h2=>?_)
 obtain⟨it,fp,tn,J,H2,e,I2,T,st2,f2,cw⟩:=h2
 subst e
 refine tE (RR:=fun acc C=>compPost (model X.prog X.w) X.A X.xe none (EP X pins σ Q) acc C) B hc hg he I2 T st2 f2 cw fun D C s' H' I' hn fC q=>?_
 obtain⟨m,hn⟩:=hn
 exact⟨m,hn,fun h' sb=>⟨.ref D,H',I'.turned (t':=s'.toks) (fun b o hb e=>(sb.2 b hb).trans e) fC.1 fC.2.1 fC.2.2.2.1 fC.2.2.2.2.1 fC.2.2.2.2.2,rfl,q⟩⟩
theorem y7 {i:Nat} {x:Str} {px spos:Pos} {elt iter tg:Expr} {sc:Scope} {pos:Pos} {Nc:List Str} {fr:List (Option Nat)} {wi:TI} {g:TG} {te:TE} (hN:X.N.Nodup) (hi':X.N[i]?=some x) (hx:X.env.scope.names.lookup x=some .local)
  (hc:X.calm=true) (hi:PI X tg iter wi) (B:Blk X.N X.env.scope sc Nc fr)
  (hg:∀ s₀ H₀ C ex pn,PG (bS X sc Nc s₀ H₀ C ex pn) tg g) (he:∀ s₀ H₀ C ex pn,PE (bS X sc Nc s₀ H₀ C ex pn) elt te)
  (hsw:swapsWith (.ListComp elt [⟨tg,iter,[],0⟩] sc pos) (some (.Name x px)) spos.line X.env=pure true:=by rfl) (hs:∀ x,foldedSetIterable iter X.env x=pure x:=by intro _;rfl) :
  PS X (.Assign [.Name x px] (.ListComp elt [⟨tg,iter,[],0⟩] sc pos) spos) (t6 (xv fr wi g te) (nE i)):=by
 intro pins s σ H D I h
 rw[exec_Assign_Name_used _ _ _ _ hsw]
 refine wpAny_bind (wpAny_standAt (wpAny_bind ?_))
 show wpAny _ X.A (do let _ ← comprehension (.ListComp elt [⟨tg,iter,[],0⟩] sc pos) sc X.env _ (newList []) false (eval iter X.env) (some (assign (.Name x px) X.env))) _ _ s
 refine wpAny_bind (wpAny_mono (wpAny_comprehension_free (use:=some (assign (.Name x px) X.env)) (Q:=fun _ s'=>SP X pins D .next s') rfl hs (w5 B I) B.kind B.locs
  (thn (hi pins s σ H _ I h) fun v s1 h1=>thn h1 fun itv s2 h2=>?_)) (fun _ s' hq=>wpAny_pure (wpAny_pure hq)) fun _ _ e=>e)
 obtain⟨it,fp,tn,J,H2,e,I2,T,st2,f2,cw⟩:=h2
 subst e
 refine tE (RR:=fun acc C=>compPost (model X.prog X.w) X.A X.xe (some (assign (.Name x px) X.env)) (fun _ s'=>SP X pins D .next s') acc C) B hc hg he I2 T st2 f2 cw fun L C s' H' I' hn fC q=>?_
 obtain⟨m,hn⟩:=hn
 show wpAny _ X.A (assign (.Name x px) X.env (.ref L)) _ _ _
 refine wpAny_assign_Name (uG I' hN hi' (.inl hx) (v:=.ref L) rfl (fun s3 I3 hs3=>?_) (.inr hx))
 obtain⟨a,sb,ha⟩:=hs3
 have hCa:C≠a:=by
  rcases ha with e | e
  ·rw[e];exact fC.2.1
  ·exact fun z=>fC.2.2.2.2.1 _ _ e (by rw[z])
 exact⟨m,hn.sameBut sb hCa,fun h' sb'=>⟨_,H',I3.turned (t':=s3.toks) (fun b o hb e=>(sb'.2 b hb).trans e) fC.1 fC.2.1 fC.2.2.2.1 fC.2.2.2.2.1 fC.2.2.2.2.2,q⟩⟩
end
end L2
namespace L2
open PySem PySem.Spec PyProof.Rows
section
variable {X:Cx}
theorem yw:∀ {bs:List Bool} {us:List Value},Vals (bs.map V.bl) us→LSm.BoolsAre us bs
 | [],_,.nil=>.nil
 | _::_,_,.cons r t=>by
  obtain rfl:=(show _=Value.bool _ from r)
  exact .cons _ (yw t)
theorem B_ (hc:X.calm=true):eR X (.builtin "all") (fun xs H Q=>∃ (p:Addr) (bs:List Bool),xs=[.ref p]∧SqL X.K H p (bs.map V.bl)∧Q (.bl (bs.all id)) H):=by
 intro pins s σ H xs us Q I r h
 obtain⟨p,bs,rfl,hq,q⟩:=h
 obtain⟨u,rfl,ru⟩:=vals1 r
 cases ru
 obtain⟨its,rv,pl,hz⟩:=I.list hq
 have hb:=yw rv
 have hl:=pl.isList
 have hlt:p < s.heap.objs.size:=by obtain⟨_,e,_⟩:=hl;exact Heap.lt_size e
 refine call_all_walk (wpAny_pyIter_list hl ⟨s.heap.objs.size,[s.heap.objs.size,p],[s.heap.objs.size],its.toArray.size,_,_,fun i=>(bs[i]?).getD true,rfl,Walks.list (A:=X.A.in1) (I.ok.hd hc) _ p (Nat.ne_of_lt hlt) its.toArray,⟨⟨_,Heap.get?_push_size _ rfl,rfl,rfl⟩,hl.push _⟩,
  fun i v s' Q' E' hP hQ=>?_,fun h' tk hk=>?_⟩)
 ·obtain⟨b,e,rfl⟩:=hb.get i v (by simpa using hP)
  simp only[e,Option.getD_some] at hQ
  exact wpAny_truthy_bool hQ
 ·have e:((List.range its.toArray.size).all fun i=>(bs[i]?).getD true)=bs.all id:=by rw[List.size_toArray,hb.length,LSm.range_all bs]
  rw[e]
  exact⟨.bl _,H,I.kept (LSm.kept_iter hk),rfl,q⟩
structure iD (K:PySem.W.Frag):Prop where
 bb:PySem.W.kitOne K (.type "bool") (.type "bool")=some true
 bi:PySem.W.kitOne K (.type "bool") (.type "int")=some true
 bl:PySem.W.kitOne K (.type "bool") (.type "list")=some false
 bt:PySem.W.kitOne K (.type "bool") (.type "tuple")=some false
 ib:PySem.W.kitOne K (.type "int") (.type "bool")=some false
 ii:PySem.W.kitOne K (.type "int") (.type "int")=some true
 il:PySem.W.kitOne K (.type "int") (.type "list")=some false
 it:PySem.W.kitOne K (.type "int") (.type "tuple")=some false
 nb:PySem.W.kitOne K (.type "NoneType") (.type "bool")=some false
 ni:PySem.W.kitOne K (.type "NoneType") (.type "int")=some false
 nl:PySem.W.kitOne K (.type "NoneType") (.type "list")=some false
 nt:PySem.W.kitOne K (.type "NoneType") (.type "tuple")=some false
 sb:PySem.W.kitOne K (.type "str") (.type "bool")=some false
 si:PySem.W.kitOne K (.type "str") (.type "int")=some false
 sl:PySem.W.kitOne K (.type "str") (.type "list")=some false
 st:PySem.W.kitOne K (.type "str") (.type "tuple")=some false
 lb:PySem.W.kitOne K (.type "list") (.type "bool")=some false
 li:PySem.W.kitOne K (.type "list") (.type "int")=some false
 ll:PySem.W.kitOne K (.type "list") (.type "list")=some true
 lt:PySem.W.kitOne K (.type "list") (.type "tuple")=some false
 tb:PySem.W.kitOne K (.type "tuple") (.type "bool")=some false
 ti:PySem.W.kitOne K (.type "tuple") (.type "int")=some false
 tl:PySem.W.kitOne K (.type "tuple") (.type "list")=some false
 tt:PySem.W.kitOne K (.type "tuple") (.type "tuple")=some true
 db:PySem.W.kitOne K (.type "dict") (.type "bool")=some false
 di:PySem.W.kitOne K (.type "dict") (.type "int")=some false
 dl:PySem.W.kitOne K (.type "dict") (.type "list")=some false
 dt:PySem.W.kitOne K (.type "dict") (.type "tuple")=some false
inductive Kn (H:Hp):V→Prop where
 | non:Kn H .non
 | bl (b:Bool):Kn H (.bl b)
 | int (i:Int):Kn H (.int i)
 | str (x:Str):Kn H (.str x)
 | lst {a:Addr} {xs:List V} (e:H a=some (.lst xs)):Kn H (.ref a)
 | tup {a:Addr} {xs:List V} (e:H a=some (.tup xs)):Kn H (.ref a)
 | dK {a:Addr} {kvs:List (Key×V)} (e:H a=some (.dK kvs)):Kn H (.ref a)
def isB:V→Bool
 | .bl _=>true
 | _=>false
def isI:V→Bool
 | .bl _=>true
 | .int _=>true
 | _=>false
def isL (H:Hp):V→Bool
 | .ref a=>match H a with
  | some (.lst _)=>true
  | _=>false
 | _=>false
def isT (H:Hp):V→Bool
 | .ref a=>match H a with
  | some (.tup _)=>true
  | _=>false
 | _=>false
theorem AQ {H:Hp} {a:Addr} {xs:List V} (h:H a=some (.lst xs)):isL H (.ref a)=true:=by simp only[isL,h]
theorem AO {H:Hp} {a:Addr} {xs:List V} (h:H a=some (.tup xs)):isL H (.ref a)=false:=by simp only[isL,h]
theorem Ja {H:Hp} {a:Addr} {xs:List (Key×V)} (h:H a=some (.dK xs)):isL H (.ref a)=false:=by simp only[isL,h]
theorem AN {H:Hp} {a:Addr} {xs:List V} (h:H a=some (.lst xs)):isT H (.ref a)=false:=by simp only[isT,h]
theorem AM {H:Hp} {a:Addr} {xs:List V} (h:H a=some (.tup xs)):isT H (.ref a)=true:=by simp only[isT,h]
theorem I_ {H:Hp} {a:Addr} {xs:List (Key×V)} (h:H a=some (.dK xs)):isT H (.ref a)=false:=by simp only[isT,h]
theorem az {pins:List (Addr×Obj)} {s:Shared} {σ:St} {H:Hp} {x:V} {c:String} {us:List Value} {t:Value} {b b':Bool} {Q:VK} (I:Inv X pins σ H s) (r:Vals [x,.ty c] us) (ty:qk X.K H x t) (e:PySem.W.kitOne X.K t (.type c)=some b) (eb:b'=b) (q:Q (.bl b') H) :
  wpAny (model X.prog X.w) X.A (call (.builtin "isinstance") us) (EP X pins σ Q) X.xe s:=by
 obtain⟨u,w',rfl,ru,rw'⟩:=vals2 r
 obtain rfl:w'=Value.type c:=rw'
 subst eb
 exact BY I ru ty e fun tk=>⟨.bl b',H,I.tok _,rfl,q⟩
theorem EC (F:iD X.K):eR X (.builtin "isinstance") (fun xs H Q=>∃ x,xs=[x,.ty "bool"]∧Kn H x∧Q (.bl (isB x)) H):=by
 intro pins s σ H xs us Q I r h
 obtain⟨x,rfl,k,q⟩:=h
 cases k with
 | non=>exact az I r .non F.nb rfl q
 | bl b=>exact az I r (.bl b) F.bb rfl q
 | int i=>exact az I r (.int i) F.ib rfl q
 | str y=>exact az I r (.str y) F.sb rfl q
 | lst e=>exact az I r (.lst e) F.lb rfl q
 | tup e=>exact az I r (.tup e) F.tb rfl q
 | dK e=>exact az I r (.dK e) F.db rfl q
theorem EB (F:iD X.K):eR X (.builtin "isinstance") (fun xs H Q=>∃ x,xs=[x,.ty "int"]∧Kn H x∧Q (.bl (isI x)) H):=by
 intro pins s σ H xs us Q I r h
 obtain⟨x,rfl,k,q⟩:=h
 cases k with
 | non=>exact az I r .non F.ni rfl q
 | bl b=>exact az I r (.bl b) F.bi rfl q
 | int i=>exact az I r (.int i) F.ii rfl q
 | str y=>exact az I r (.str y) F.si rfl q
 | lst e=>exact az I r (.lst e) F.li rfl q
 | tup e=>exact az I r (.tup e) F.ti rfl q
 | dK e=>exact az I r (.dK e) F.di rfl q
theorem EA (F:iD X.K):eR X (.builtin "isinstance") (fun xs H Q=>∃ x,xs=[x,.ty "list"]∧Kn H x∧Q (.bl (isL H x)) H):=by
 intro pins s σ H xs us Q I r h
 obtain⟨x,rfl,k,q⟩:=h
 cases k with
 | non=>exact az I r .non F.nl rfl q
 | bl b=>exact az I r (.bl b) F.bl rfl q
 | int i=>exact az I r (.int i) F.il rfl q
 | str y=>exact az I r (.str y) F.sl rfl q
 | lst e=>exact az I r (.lst e) F.ll (AQ e) q
 | tup e=>exact az I r (.tup e) F.tl (AO e) q
 | dK e=>exact az I r (.dK e) F.dl (Ja e) q
theorem Ey (F:iD X.K):eR X (.builtin "isinstance") (fun xs H Q=>∃ x,xs=[x,.ty "tuple"]∧Kn H x∧Q (.bl (isT H x)) H):=by
 intro pins s σ H xs us Q I r h
 obtain⟨x,rfl,k,q⟩:=h
 cases k with
 | non=>exact az I r .non F.nt rfl q
 | bl b=>exact az I r (.bl b) F.bt rfl q
 | int i=>exact az I r (.int i) F.it rfl q
 | str y=>exact az I r (.str y) F.st rfl q
 | lst e=>exact az I r (.lst e) F.lt (AN e) q
 | tup e=>exact az I r (.tup e) F.tt (AM e) q
 | dK e=>exact az I r (.dK e) F.dt (I_ e) q
mutual
inductive Dt (K:PySem.W.Frag) (H:Hp):V→PyData→Prop where
 | non:Dt K H .non .none
 | bl (b:Bool):Dt K H (.bl b) (.bool b)
 | int (i:Int):Dt K H (.int i) (.int i)
 | str (x:Str):Dt K H (.str x) (.str x)
 | lst {a:Addr} {xs:List V} {ds:List PyData}:SqL K H a xs→gw K H xs ds→Dt K H (.ref a) (.list ds)
 | tup {a:Addr} {xs:List V} {ds:List PyData}:SqT K H a xs→gw K H xs ds→Dt K H (.ref a) (.tuple ds)
inductive gw (K:PySem.W.Frag) (H:Hp):List V→List PyData→Prop where
 | nil:gw K H [] []
 | cons {x:V} {xs:List V} {d:PyData} {ds:List PyData}:Dt K H x d→gw K H xs ds→gw K H (x::xs) (d::ds)
end
mutual
theorem Dt.reads {pins:List (Addr×Obj)} {σ:St} {H:Hp} {s:Shared} (I:Inv X pins σ H s):∀ {x:V} {d:PyData} {u:Value},Dt X.K H x d→RelV x u→∃ as,Reads s.heap u d as
 | _,_,_,.non,r=>by cases r;exact⟨_,.none⟩
 | _,_,_,.bl b,r=>by cases r;exact⟨_,.bool b⟩
 | _,_,_,.int i,r=>by obtain⟨t,rfl⟩:=r;exact⟨_,.int i t⟩
 | _,_,_,.str y,r=>by obtain⟨t,rfl⟩:=r;exact⟨_,.str y t⟩
 | _,_,_,.lst hq hs,r=>by
  cases r
  obtain⟨its,rv,⟨o,n,e1,e2,e3,e4⟩,hz⟩:=I.list hq
  obtain⟨as,h⟩:=gw.reads I hs rv
  exact⟨_,.list e1 e2 e4 (by simpa using h)⟩
 | _,_,_,.tup hq hs,r=>by
  cases r
  obtain⟨its,rv,⟨o,e1,e2,n,e4⟩,hz⟩:=I.tuple hq
  obtain⟨as,h⟩:=gw.reads I hs rv
  exact⟨_,.tuple e1 e2 e4 (by simpa using h)⟩
theorem gw.reads {pins:List (Addr×Obj)} {σ:St} {H:Hp} {s:Shared} (I:Inv X pins σ H s):∀ {xs:List V} {ds:List PyData} {us:List Value},gw X.K H xs ds→Vals xs us→∃ as,ReadsAll s.heap us ds as
 | _,_,_,.nil,.nil=>⟨_,.nil⟩
 | _,_,_,.cons h1 h2,.cons r1 r2=>by
  obtain⟨as,a⟩:=Dt.reads I h1 r1
  obtain⟨bs,b⟩:=gw.reads I h2 r2
  exact⟨_,.cons a b⟩
end
structure Shw (d:PyData):Prop where
 sh:d.showable=true
 nd:d.hasDict=false
 dp:d.depth≤20
 sz:d.shown.length≤sizeLine
theorem z5 {k:Nat} (hr:eg k X.A):eR X (.builtin "repr") (fun xs H Q=>∃ a d,xs=[.ref a]∧Dt X.K H (.ref a) d∧Shw d∧Q (.str d.shown) H):=by
 intro pins s σ H xs us Q I r h
 obtain⟨a,d,rfl,hd,S,q⟩:=h
 obtain⟨u,rfl,ru⟩:=vals1 r
 cases ru
 obtain⟨as,rd⟩:=hd.reads I rfl
 exact repr_of_reads' rd S.sh (PyData.noDict_hsm S.nd) hr.gd (by have:=hr.units;have:=S.dp;omega) (fun _ _ e=>e) (fun h' u tk hk=>⟨.str d.shown,H,I.kept hk,⟨_,rfl⟩,q⟩) S.sz
mutual
theorem Dt.same {K:PySem.W.Frag} {H H':Hp} (e:aL H H'):∀ {x:V} {d:PyData},Dt K H x d→Dt K H' x d
 | _,_,.non=>.non
 | _,_,.bl b=>.bl b
 | _,_,.int i=>.int i
 | _,_,.str y=>.str y
 | _,_,.lst hq hs=>.lst (e.seq hq) (gw.same e hs)
 | _,_,.tup hq hs=>by
  refine .tup ?_ (gw.same e hs)
  rcases hq with (h | ⟨o,h⟩) | h
  ·exact .inl (.inl (e _ _ h))
  ·exact .inl (.inr ⟨o,e _ _ h⟩)
  ·exact .inr h
theorem gw.same {K:PySem.W.Frag} {H H':Hp} (e:aL H H'):∀ {xs:List V} {ds:List PyData},gw K H xs ds→gw K H' xs ds
 | _,_,.nil=>.nil
 | _,_,.cons h1 h2=>.cons (Dt.same e h1) (gw.same e h2)
end
end
end L2
namespace L2
open PySem PySem.Spec PyProof.Rows
section
variable {X:Cx} {pins:List (Addr×Obj)} {σ:St} {H:Hp} {s:Shared}
theorem Inv.moved {ch:List Addr} {h':Heap} {t':Nat} (I:Inv X pins σ H s) (hch:∀ b∈ch,gJ X pins H b) (hk:∀ b o,b∉ch→s.heap.get? b=some o→h'.get? b=some o):Inv X pins σ H { s with heap:=h',toks:=t' }:=by
 have nt:∀ {b:Addr} {u:HO},H b=some u→b∉ch:=fun e hb=>by rw[(hch _ hb).1] at e;cases e
 refine I.step (g':=s.gens) (d':=s.drawn) (ch:=ch) (fun b hb=>⟨(hch b hb).2.2.2.1,(hch b hb).2.1,(hch b hb).2.2.2.2.1,(hch b hb).2.2.2.2.2⟩) (fun b o _ _ hc e _=>hk b o hc e) (fun b o _ _ hc e _=>⟨o.slots,hk b o hc e⟩) (fun _ _ _ _ n=>n)
  (fun b o hc e=>⟨o,hk b o hc e⟩) (fun _ _ e=>e) (fun _ _ _ e=>e) (fun b ps e=>⟨#[],by rw[e];simp⟩) (fun m hm=>?_) (fun b u e=>?_) I.bare
 ·obtain⟨o,es,ep,ho,r⟩:=hm
  exact⟨o,es,ep,hk _ o (fun hb=>(hch _ hb).2.1 rfl) ho,r⟩
 ·exact(I.hok b u e).t7 (fun c v hc q=>hk c v (by rcases hc with z | z <;> first | (rw[z];exact nt e) | exact nt z) q) (fun _ q=>q) fun _ _ q=>q
theorem Inv.vW {ch:List Addr} {T:Addr} {x y:V} {u v:Value} {h':Heap} {t':Nat} (I:Inv X pins σ H s) (hch:∀ b∈ch,gJ X pins H b) (hT:s.heap.objs.size≤T)
  (hk:∀ b o,b∉ch→s.heap.get? b=some o→h'.get? b=some o) (ht:IsTup h' T #[u,v]) (ru:RelV x u) (rv:RelV y v):Inv X pins σ (upd H T (.tup [x,y])) { s with heap:=h',toks:=t' }:=by
 have nt:∀ {b:Addr} {u:HO},H b=some u→b∉ch:=fun e hb=>by rw[(hch _ hb).1] at e;cases e
 have fT:H T=none:=I.hok.fresh hT
 have neT:∀ {b:Addr} {o:Obj},s.heap.get? b=some o→b≠T:=fun e=>Nat.ne_of_lt (Nat.lt_of_lt_of_le (Heap.lt_size e) hT)
 have neH:∀ {b:Addr} {u:HO},H b=some u→b≠T:=fun e z=>by rw[z,fT] at e;cases e
 refine I.step (g':=s.gens) (d':=s.drawn) (ch:=ch) (fun b hb=>⟨(hch b hb).2.2.2.1,(hch b hb).2.1,(hch b hb).2.2.2.2.1,(hch b hb).2.2.2.2.2⟩) (fun b o _ _ hc e _=>hk b o hc e) (fun b o _ _ hc e _=>⟨o.slots,hk b o hc e⟩) (fun b o _ e n=>by rw[au (neT e)];exact n)
  (fun b o hc e=>⟨o,hk b o hc e⟩) (fun b xs e=>by rw[au (neH e)];exact e) (fun b o xs e=>by rw[au (neH e)];exact e) (fun b ps e=>⟨#[],by rw[au (neH e),e];simp⟩) (fun m hm=>?_) (fun b o e=>?_) I.bare
 ·obtain⟨o,es,ep,ho,r⟩:=hm
  exact⟨o,es,ep,hk _ o (fun hb=>(hch _ hb).2.1 rfl) ho,r⟩
 ·by_cases hb:b=T
  ·subst hb
   rw[aN] at e
   cases e
   exact⟨(by show 2≤sizeLine;decide),[u,v],.cons ru (.cons rv .nil),ht⟩
  ·rw[au hb] at e
   exact(I.hok b o e).t7 (fun c w' hc q=>hk c w' (by rcases hc with z | z <;> first | (rw[z];exact nt e) | exact nt z) q) (fun c q=>by rw[au (neH q)];exact q) fun c xs q=>by rw[au (neH q)];exact q
end
def Itz (a b:Addr):It:=
 ⟨fun i H=>∃ xs ys x y,H a=some (.lst xs)∧H b=some (.lst ys)∧xs[i]?=some x∧ys[i]?=some y,
  fun i H v H'=>∃ t xs ys x y,H t=none∧H a=some (.lst xs)∧H b=some (.lst ys)∧xs[i]?=some x∧ys[i]?=some y∧v=.ref t∧H'=upd H t (.tup [x,y]),
  fun i H=>∃ xs ys,H a=some (.lst xs)∧H b=some (.lst ys)∧(xs.length≤i∨ys.length≤i)⟩
def HB (z TI TO i1 i2 l1 l2:Addr) (i:Nat) (h:Heap):Prop:=IsZip h z TI TO .none∧IsPair h TI (.ref i1) (.ref i2)∧(∃ a b,IsPair h TO a b)∧h.IsListIter i1 l1 i∧h.IsListIter i2 l2 i
structure pC (z TI TO i1 i2:Addr):Prop where
 TIz:TI≠z
 TOz:TO≠z
 i1z:i1≠z
 i2z:i2≠z
 TITO:TI≠TO
 TIi1:TI≠i1
 TIi2:TI≠i2
 TOi1:TO≠i1
 TOi2:TO≠i2
 i12:i1≠i2
theorem Cs {P:Program} {w:World} {K:PySem.W.Frag} {es:List Expr} {kt:Nat} {tp:Pos} (z TI TO i1 i2 l1 l2:Addr) (D:pC z TI TO i1 i2) :
  Turn P w K (.Tuple es kt tp) (Itz l1 l2) [z,TI,TO,i1,i2] z (HB z TI TO i1 i2 l1 l2) where
 mem:=by simp
 obj:=fun i h st b hb=>by
  obtain⟨hz,hTI,⟨a,c,hTO⟩,⟨o1,e1,_,d1⟩,⟨o2,e2,_,d2⟩⟩:=st
  simp only[List.mem_cons,List.not_mem_nil,or_false] at hb
  rcases hb with rfl | rfl | rfl | rfl | rfl
  ·exact⟨_,hz,fun v q=>by cases q⟩
  ·exact⟨_,hTI,fun v q=>by cases q⟩
  ·exact⟨_,hTO,fun v q=>by cases q⟩
  ·exact⟨_,e1,fun v q=>by rw[d1] at q;cases q⟩
  ·exact⟨_,e2,fun v q=>by rw[d2] at q;cases q⟩
 keep:=fun i h h' st k=>by
  obtain⟨hz,hTI,⟨a,c,hTO⟩,h1,h2⟩:=st
  exact⟨k z (by simp) _ hz,k TI (by simp) _ hTI,⟨a,c,k TO (by simp) _ hTO⟩,h1.at fun o e=>k i1 (by simp) o e,h2.at fun o e=>k i2 (by simp) o e⟩
 item:=by
  intro X hP hw hK hc i pins s σ H E I hf st hg
  subst hP hw hK
  obtain⟨xs,ys,x,y,ha,hb,hx,hy⟩:=hg
  obtain⟨hz,hTI,⟨a0,b0,hTO⟩,h1,h2⟩:=st
  obtain⟨ia,na,ra,ea,_⟩:=I.lst ha
  obtain⟨ib,nb,rb,eb,_⟩:=I.lst hb
  have nf:∀ b∈[z,TI,TO,i1,i2],H b=none:=fun b hb=>(hf b hb).1
  have ne1:∀ b∈[z,TI,TO,i1,i2],l1≠b:=fun b hb e=>by rw[e,nf b hb] at ha;cases ha
  have ne2:∀ b∈[z,TI,TO,i1,i2],l2≠b:=fun b hb' e=>by rw[e,nf b hb'] at hb;cases hb
  have Z:ZipApart z TI TO i1 i2 l1 l2:=⟨D.TIz,D.TOz,D.i1z,D.i2z,D.TITO,D.TIi1,D.TIi2,D.TOi1,D.TOi2,D.i12,ne1 z (by simp),ne1 TO (by simp),ne1 i1 (by simp),ne1 i2 (by simp),ne2 z (by simp),ne2 TO (by simp),ne2 i1 (by simp),ne2 i2 (by simp)⟩
  obtain⟨u,hu,ru⟩:=ra.get hx
  obtain⟨v,hv,rv⟩:=rb.get hy
  refine wpAny_pyNext_zip_item Z hz hTI hTO h1 h2 (xs:=ia.toArray) (ys:=ib.toArray) ⟨_,ea,rfl,_,rfl⟩ ⟨_,eb,rfl,_,rfl⟩ (x:=u) (y:=v) (by simpa using hu) (by simpa using hv) fun h' a1 a2 a3 a4 a5 a6 hk=>?_
  refine⟨_,rfl,wpAny_letOwnedTupleGo_zip a1 fun h2' hz' hs'=>?_⟩
  have zT:s.heap.objs.size≠z:=Nat.ne_of_gt (Heap.lt_size hz)
  refine⟨.ref s.heap.objs.size,upd H s.heap.objs.size (.tup [x,y]),?_,rfl,⟨_,xs,ys,x,y,I.hok.fresh (Nat.le_refl _),ha,hb,hx,hy,rfl,rfl⟩,?_,fun b hb'=>?_⟩
  ·refine I.vW (t':=s.toks) (ch:=[z,TO,i1,i2]) (u:=u) (v:=v) (fun b hb'=>hf b (by simp at hb' ⊢;rcases hb' with e | e | e | e <;> simp [e])) (Nat.le_refl _) (fun b o hb' e=>?_) ⟨_,hs'.extBut _ _ zT a5,rfl,_,rfl⟩ ru rv
   simp only[List.mem_cons,List.not_mem_nil,or_false,not_or] at hb'
   exact hs'.extBut b o hb'.1 (hk b o hb'.1 hb'.2.1 hb'.2.2.1 hb'.2.2.2 e)
  ·exact⟨hz',hs'.extBut _ _ D.TIz (hk _ _ D.TIz D.TITO D.TIi1 D.TIi2 hTI),⟨_,_,hs'.extBut _ _ D.TOz a2⟩,a3.extBut hs'.extBut D.i1z,a4.extBut hs'.extBut D.i2z⟩
  ·rw[au]
   ·exact nf b hb'
   ·have hlt:∃ o,s.heap.get? b=some o:=by
     obtain⟨o1,e1,_⟩:=h1
     obtain⟨o2,e2,_⟩:=h2
     simp only[List.mem_cons,List.not_mem_nil,or_false] at hb'
     rcases hb' with rfl | rfl | rfl | rfl | rfl
     ·exact⟨_,hz⟩
     ·exact⟨_,hTI⟩
     ·exact⟨_,hTO⟩
     ·exact⟨_,e1⟩
     ·exact⟨_,e2⟩
    obtain⟨o,e⟩:=hlt
    exact Nat.ne_of_lt (Heap.lt_size e)
 done:=by
  intro X hP hw hK hc i pins s σ H E I hf st hg
  subst hP hw hK
  obtain⟨xs,ys,ha,hb,hl⟩:=hg
  obtain⟨hz,hTI,⟨a0,b0,hTO⟩,h1,h2⟩:=st
  obtain⟨ia,na,ra,ea,_⟩:=I.lst ha
  obtain⟨ib,nb,rb,eb,_⟩:=I.lst hb
  have nf:∀ b∈[z,TI,TO,i1,i2],H b=none:=fun b hb=>(hf b hb).1
  have ne1:∀ b∈[z,TI,TO,i1,i2],l1≠b:=fun b hb e=>by rw[e,nf b hb] at ha;cases ha
  have ne2:∀ b∈[z,TI,TO,i1,i2],l2≠b:=fun b hb' e=>by rw[e,nf b hb'] at hb;cases hb
  have Z:ZipApart z TI TO i1 i2 l1 l2:=⟨D.TIz,D.TOz,D.i1z,D.i2z,D.TITO,D.TIi1,D.TIi2,D.TOi1,D.TOi2,D.i12,ne1 z (by simp),ne1 TO (by simp),ne1 i1 (by simp),ne1 i2 (by simp),ne2 z (by simp),ne2 TO (by simp),ne2 i1 (by simp),ne2 i2 (by simp)⟩
  have la:=ra.length
  have lb:=rb.length
  refine wpAny_pyNext_zip_end (I.ok.hd hc) Z hz hTI hTO h1 h2 (xs:=ia.toArray) (ys:=ib.toArray) ⟨_,ea,rfl,_,rfl⟩ ⟨_,eb,rfl,_,rfl⟩ ?_ fun h' hk=>⟨rfl,I.moved (t':=s.toks) (ch:=[z,TO,i1,i2]) (fun b hb'=>hf b (by simp at hb' ⊢;rcases hb' with e | e | e | e <;> simp [e])) fun b o hb' e=>?_⟩
  ·rcases hl with hl | hl
   ·left;simp;omega
   ·right;simp;omega
  ·simp only[List.mem_cons,List.not_mem_nil,or_false,not_or] at hb'
   exact hk b o hb'.1 hb'.2.1 hb'.2.2.1 hb'.2.2.2 e
 self:=fun _ _ _ _ _ st h=>wpAny_pyIter_zip st.1 h
section
variable {X:Cx}
def Kz (ta:TA):TI:=fun σ H R=>ta σ H fun vs H1=>∃ (p q:Addr) (xs ys:List V),vs=[.ref p,.ref q]∧H1 p=some (.lst xs)∧H1 q=some (.lst ys)∧R (Itz p q) H1
theorem Ij {a b:Expr} {ta:TA} {es:List Expr} {kt:Nat} {tp p pos:Pos} (hg:Gl X "zip") (hm:X.mg "zip"=none) (ha:PA X [a,b] ta) (hs:starEach [a,b] X.env=[(false,eval a X.env),(false,eval b X.env)]:=by rfl) (hs2:starEach [b] X.env=[(false,eval b X.env)]:=by rfl) :
  PI X (.Tuple es kt tp) (.Call (.Name "zip" p) [a,b] [] pos) (Kz ta):=by
 intro pins s σ H R I h
 refine Call_ (g_ I hg hm (by decide +kernel:bootBuiltins "zip"=some (.type "zip")) (PyProof.Rows.callWith_type1 (thn (ha pos pins s σ H _ I h) fun us s1 ⟨vs,H1,I1,r1,q1⟩=>?_) (by rw[hs,hs2]) (by rw[hs2];rfl)))
 obtain⟨l1,l2,xs,ys,e,h1,h2,q⟩:=q1
 subst e
 obtain⟨u,w',rfl,ru,rw'⟩:=vals2 r1
 cases ru
 cases rw'
 obtain⟨ia,na,ra,ea,_⟩:=I1.lst h1
 obtain⟨ib,nb,rb,eb,_⟩:=I1.lst h2
 refine call_zip_2 (xs:=ia.toArray) (ys:=ib.toArray) ⟨_,ea,rfl,_,rfl⟩ ⟨_,eb,rfl,_,rfl⟩ fun h' hz hTI hTO hi1 hi2 hsz hk=>wpAny_pyIter_zip hz ?_
 have I2:Inv X pins σ H1 { s1 with heap:=h' }:=I1.kept (t':=s1.toks) hk
 have lt:∀ i j:Nat,i < j→s1.heap.objs.size + i≠s1.heap.objs.size + j:=fun i j h e=>by omega
 have D:pC (s1.heap.objs.size + 4) (s1.heap.objs.size + 2) (s1.heap.objs.size + 3) s1.heap.objs.size (s1.heap.objs.size + 1):=
  ⟨lt 2 4 (by decide),lt 3 4 (by decide),lt 0 4 (by decide),lt 1 4 (by decide),lt 2 3 (by decide),(lt 0 2 (by decide)).symm,(lt 1 2 (by decide)).symm,(lt 0 3 (by decide)).symm,(lt 1 3 (by decide)).symm,lt 0 1 (by decide)⟩
 refine⟨_,_,_,_,H1,rfl,I2,Cs _ _ _ _ _ l1 l2 D,⟨hz,hTI,⟨_,_,hTO⟩,hi1,hi2⟩,fun b hb=>?_,q⟩
 have hge:s1.heap.objs.size≤b:=by
  simp only[List.mem_cons,List.not_mem_nil,or_false] at hb
  rcases hb with rfl | rfl | rfl | rfl | rfl <;> omega
 exact I1.p8 hge (I1.hok.fresh hge)
end
def Ite (a:Addr):It:=
 ⟨fun i H=>∃ xs x,H a=some (.lst xs)∧xs[i]?=some x,
  fun i H v H'=>∃ t xs x,H t=none∧H a=some (.lst xs)∧xs[i]?=some x∧v=.ref t∧H'=upd H t (.tup [.int i,x]),
  fun i H=>∃ xs,H a=some (.lst xs)∧xs.length≤i⟩
def Mw (e it l:Addr) (i:Nat) (h:Heap):Prop:=(∃ old,IsEnum h e it i old)∧h.IsListIter it l i
section
variable {X:Cx}
def L7 (ta:TA):TI:=fun σ H R=>ta σ H fun vs H1=>∃ (p:Addr) (xs:List V),vs=[.ref p]∧H1 p=some (.lst xs)∧R (Ite p) H1
def lJ (xs:List V) (lo hi st:Option Int):List V:=
 (sliceRange (sliceBounds lo hi st xs.length).1 (sliceBounds lo hi st xs.length).2.1 (sliceBounds lo hi st xs.length).2.2).filterMap (xs[·]?)
theorem Vals.places:∀ {xs:List V} {us:List Value},Vals xs us→∀ js:List Nat,Vals (js.filterMap (xs[·]?)) (js.filterMap (us[·]?))
 | _,_,_,[]=>.nil
 | xs,us,h,j::js=>by
  have ih:=Vals.places h js
  cases hn:xs[j]? with
  | some x=>
   obtain⟨u,hu,r⟩:=h.get hn
   simp only[List.filterMap_cons,hn,hu]
   exact .cons r ih
  | none=>
   have hv:=h.none_of hn
   simp only[List.filterMap_cons,hn,hv]
   exact ih
def JE (K:PySem.W.Frag) (te:TE) (tl th ts:TO):TE:=fun σ H Q=>te σ H fun x H1=>tl σ H1 fun l H2=>th σ H2 fun u H3=>ts σ H3 fun k H4=>k≠some 0∧∃ a xs,x=.ref a∧SqL K H4 a xs∧∀ p,H4 p=none→Q (.ref p) (upd H4 p (.lst (lJ xs l u k)))
theorem BA {e:Expr} {te:TE} {lo hi:Option Expr} {st:Expr} {tl th ts:TO} {p2 pos:Pos} (he:PE X e te) (hl:PO X lo tl) (hu:PO X hi th) (hs:PO X (some st) ts):PE X (.Subscript e (.Slice lo hi (some st) p2) pos) (JE X.K te tl th ts):=by
 intro pins s σ H Q I h
 refine Subscript_ (thn (he pins s σ H _ I h) fun v s1 ⟨x,H1,I1,r1,q1⟩=>?_)
 refine wpAny_Slice (thn (hl pins s1 σ H1 _ I1 q1) fun vl s2 ⟨l,H2,I2,pl,q2⟩=>thn (hu pins s2 σ H2 _ I2 q2) fun vu s3 ⟨u,H3,I3,pu,q3⟩=>thn (hs pins s3 σ H3 _ I3 q3) fun vk s4 ⟨k,H4,I4,pk,q4⟩=>?_)
 obtain⟨k0,a,xs,rfl,hx,q⟩:=q4
 cases r1
 have I5:Inv X pins σ H4 { s4 with heap:=s4.heap.push { cls:=.type "slice",data:=.fields #[vl,vu,vk] } }:=I4.kept (t':=s4.toks) fun b ob q=>Heap.get?_push_of_some _ q
 obtain⟨its,r,ht,hz⟩:=I5.list hx
 have hlen:=r.length
 show wpAny (model X.prog X.w) X.A (subscriptTail e (.Slice lo hi (some st) p2) (.ref a) (.ref s4.heap.objs.size)) (EP X pins σ Q) X.xe { s4 with heap:=s4.heap.push { cls:=.type "slice",data:=.fields #[vl,vu,vk] } }
 refine tail_any (ops:=[.ref a,.ref s4.heap.objs.size]) ht.isList.typeIs slot_list_getitem.lookup (wpAny_getItem_list_slice ht.isList (Heap.IsSliceOf.new ..) pl pu pk k0 ?_ (by rw[List.size_toArray] <;> omega)) (by with_unfolding_all rfl)
 refine⟨.ref _,_,I5.laid (t':=s4.toks) (o:=.lst (lJ xs l u k)) (fun b ob q=>Heap.get?_push_of_some _ q) (Nat.le_refl _) ?_,rfl,q _ (I5.hok.fresh (Nat.le_refl _))⟩
 have rp:Vals (lJ xs l u k) (slicePick its.toArray l u k).toList:=by
  have e:(slicePick its.toArray l u k).toList=(sliceRange (sliceBounds l u k xs.length).1 (sliceBounds l u k xs.length).2.1 (sliceBounds l u k xs.length).2.2).filterMap (its[·]?):=by
   simp [slicePick,hlen]
  rw[e]
  exact r.places _
 have hsz:=slicePick_size_le its.toArray l u k
 have h2:=rp.length
 simp only[Array.length_toList,List.size_toArray] at h2 hsz
 exact⟨by omega,_,0,rp,Heap.get?_push_size _ rfl⟩
end
end L2
namespace L2
open PySem PySem.Spec PyProof.Rows
abbrev i_ (h:Heap) (z TI TO T:Addr) (f:Bool):Prop:=h.get? z=some { cls:=.type "zip",dict:=none,data:=.fields #[rawInt T,.bool f,.bool false,.ref TI,.ref TO],slots:=#[] }
section
variable {prog:Program} {w:World} {A:Around} {E:Value→Shared→Prop} {s:Shared}
theorem Ci {M:Model} {a:Addr} {Q:Option Obj→Shared→Prop} (h:Q (s.heap.get? a) s):wpAny M A (loadIfAlive a) Q E s:=fun Γ p hΓ=>by
 unfold loadIfAlive
 rw[Sem.wp_loadIfAlive]
 exact h
theorem AV {z TI TO T:Addr} {f:Bool} {ob:Obj} {Q:Bool→Shared→Prop} (hzf:i_ s.heap z TI TO T f) (hT:s.heap.get? T=some ob) (h:∀ h',i_ h' z TI TO T true→Heap.SameBut z s.heap h'→Q false { s with heap:=h' }) :
  wpAny (model prog w) A (Builtin.SmallTypes.ownedTupleIsFree (.ref z)) Q E s:=by
 unfold Builtin.SmallTypes.ownedTupleIsFree
 refine wpAny_bind (wpAny_field hzf rfl (x:=rawInt T) rfl ?_)
 show wpAny _ _ (loadIfAlive ((T:Int).toNat) >>= _) _ _ _
 have eT:((T:Nat):Int).toNat=T:=Int.toNat_natCast T
 rw[eT]
 refine wpAny_bind (Ci ?_)
 rw[hT]
 show wpAny _ _ (field (.ref z) 1 >>= _) _ _ _
 refine wpAny_bind (wpAny_field hzf rfl (x:=.bool f) rfl ?_)
 cases f with
 | true=>exact wpAny_pure (h _ hzf (.refl ..))
 | false=>
  show wpAny _ _ (setField (.ref z) 1 (.bool true) >>= fun _=>pure false) _ _ _
  exact wpAny_bind (wpAny_setField_rec hzf (by simp) fun h' hz' hs'=>wpAny_pure (h h' hz' hs'))
theorem Cm {z TI TO i1 i2 l1 l2 T:Addr} {f:Bool} {ob:Obj} {k1 k2:Nat} {xs ys:Array Value} {x y:Value} {Q:Value→Shared→Prop} (D:ZipApart z TI TO i1 i2 l1 l2) (hzf:i_ s.heap z TI TO T f)
  (hTI:IsPair s.heap TI (.ref i1) (.ref i2)) (hT:s.heap.get? T=some ob) (h1:s.heap.IsListIter i1 l1 k1) (h2:s.heap.IsListIter i2 l2 k2) (hl1:s.heap.IsList l1 xs) (hl2:s.heap.IsList l2 ys) (hx:xs[k1]?=some x) (hy:ys[k2]?=some y)
  (hQ:∀ h',i_ h' z TI TO T true→h'.IsListIter i1 l1 (k1 + 1)→h'.IsListIter i2 l2 (k2 + 1)→IsPair h' s.heap.objs.size x y→(∀ c o,c≠z→c≠i1→c≠i2→s.heap.get? c=some o→h'.get? c=some o)→Q (.ref s.heap.objs.size) { s with heap:=h' }) :
  wpAny (model prog w) A (Builtin.«zip.__next__» ⟨[.ref z],[]⟩) (fun fin s'=>∃ v,fin=.done (.ret v)∧Q v s') E s:=by
 show wpAny _ _ (field (.ref z) 2 >>= fun a=>_) _ _ _
 refine wpAny_bind (wpAny_field hzf rfl (x:=.bool false) rfl ?_)
 show wpAny _ _ (field (.ref z) 3 >>= fun a=>_) _ _ _
 refine wpAny_bind (wpAny_field hzf rfl (x:=.ref TI) rfl (wpAny_bind (wpAny_seqItems hTI rfl ?_)))
 show wpAny _ _ (Builtin.SmallTypes.ownedTupleIsFree (.ref z) >>= fun a=>_) _ _ _
 refine wpAny_bind (AV hzf hT fun g1 hz1 sb1=>?_)
 simp only[Bool.false_eq_true,if_false]
 have ht1:g1.IsListIter i1 l1 k1:=h1.extBut sb1.extBut D.i1z
 have ht2:g1.IsListIter i2 l2 k2:=h2.extBut sb1.extBut D.i2z
 have hL1:g1.IsList l1 xs:=hl1.extBut sb1.extBut D.l1z
 have hL2:g1.IsList l2 ys:=hl2.extBut sb1.extBut D.l2z
 rw[List.forIn_toArray]
 refine wpAny_bind ?_
 rw[List.forIn_cons]
 refine wpAny_bind (wpAny_bind (wpAny_holding ?_))
 show wpAny _ _ (Builtin.SmallTypes.nextOf (.ref i1) >>= fun v=>pure (some v)) _ _ _
 refine wpAny_bind (wpAny_nextOf_list_item ht1 hL1 hx fun g2 hi1 sb2=>wpAny_pure (wpAny_pure ?_))
 show wpAny _ _ (forIn [Value.ref i2] _ _) _ _ _
 rw[List.forIn_cons]
 refine wpAny_bind (wpAny_bind (wpAny_holding ?_))
 show wpAny _ _ (Builtin.SmallTypes.nextOf (.ref i2) >>= fun v=>pure (some v)) _ _ _
 refine wpAny_bind (wpAny_nextOf_list_item (ht2.extBut sb2.extBut D.i12.symm) (hL2.extBut sb2.extBut D.l2i1) hy fun g3 hi2 sb3=>wpAny_pure (wpAny_pure ?_))
 show wpAny _ _ (forIn ([]:List Value) _ _) _ _ _
 rw[List.forIn_nil]
 refine wpAny_pure ?_
 show wpAny _ _ (newTuple [x,y] >>= fun t=>ret t) _ _ _
 refine wpAny_bind (wpAny_newTuple (wpAny_pure ⟨_,rfl,?_⟩))
 have hsz:g3.objs.size=s.heap.objs.size:=by rw[sb3.1,sb2.1,sb1.1]
 have hz3:i_ g3 z TI TO T true:=sb3.extBut _ _ D.i2z.symm (sb2.extBut _ _ D.i1z.symm hz1)
 have hq:=hQ (g3.push { cls:=.type "tuple",data:=.seq #[x,y] }) (Heap.get?_push_of_some _ hz3) ((hi1.extBut sb3.extBut D.i12).at fun o e=>Heap.get?_push_of_some _ e) (hi2.at fun o e=>Heap.get?_push_of_some _ e)
  (by rw[← hsz];exact Heap.get?_push_size _ rfl) fun c o c1 c2 c3 e=>Heap.get?_push_of_some _ (sb3.extBut _ _ c3 (sb2.extBut _ _ c2 (sb1.extBut _ _ c1 e)))
 rw[← hsz] at hq
 exact hq
theorem BJ {z TI TO i1 i2 l1 l2 T:Addr} {f:Bool} {ob:Obj} {k1 k2:Nat} {xs ys:Array Value} {x y:Value} {Q:Option Value→Shared→Prop} (D:ZipApart z TI TO i1 i2 l1 l2) (hzf:i_ s.heap z TI TO T f)
  (hTI:IsPair s.heap TI (.ref i1) (.ref i2)) (hT:s.heap.get? T=some ob) (h1:s.heap.IsListIter i1 l1 k1) (h2:s.heap.IsListIter i2 l2 k2) (hl1:s.heap.IsList l1 xs) (hl2:s.heap.IsList l2 ys) (hx:xs[k1]?=some x) (hy:ys[k2]?=some y)
  (hQ:∀ h',i_ h' z TI TO T true→h'.IsListIter i1 l1 (k1 + 1)→h'.IsListIter i2 l2 (k2 + 1)→IsPair h' s.heap.objs.size x y→(∀ c o,c≠z→c≠i1→c≠i2→s.heap.get? c=some o→h'.get? c=some o)→Q (some (.ref s.heap.objs.size)) { s with heap:=h' }) :
  wpAny (model prog w) A (pyNext (.ref z)) Q E s:=by
 have hTy:s.TypeIs (.ref z) "zip":=⟨_,hzf,rfl⟩
 unfold pyNext
 exact wpAny_bind (wpAny_attempt (wpAny_callSpecial?_slot (name:=Str.ofString "__next__") hTy F.slot_zip_next
  (wpAny_call_entry F.slot_zip_next hTy F.entry_zip_next (Cm D hzf hTI hT h1 h2 hl1 hl2 hx hy fun h' a1 a2 a3 a4 a5=>wpAny_pure (hQ h' a1 a2 a3 a4 a5)) (F.args_zip_next_1 _))))
theorem Ck {z TI TO i1 i2 l1 l2 T:Addr} {f:Bool} {ob:Obj} {k1 k2:Nat} {xs ys:Array Value} {Q:Fin→Shared→Prop} (hh:A.handled=none) (D:ZipApart z TI TO i1 i2 l1 l2) (hzf:i_ s.heap z TI TO T f)
  (hTI:IsPair s.heap TI (.ref i1) (.ref i2)) (hT:s.heap.get? T=some ob) (h1:s.heap.IsListIter i1 l1 k1) (h2:s.heap.IsListIter i2 l2 k2) (hl1:s.heap.IsList l1 xs) (hl2:s.heap.IsList l2 ys) (hend:xs[k1]?=none∨ys[k2]?=none)
  (hE:∀ h' e,(∀ c o,c≠z→c≠i1→c≠i2→s.heap.get? c=some o→h'.get? c=some o)→(∃ o,h'.get? e=some o∧o.cls=.type "StopIteration")→E (.ref e) { s with heap:=h' }) :
  wpAny (model prog w) A (Builtin.«zip.__next__» ⟨[.ref z],[]⟩) Q E s:=by
 show wpAny _ _ (field (.ref z) 2 >>= fun a=>_) _ _ _
 refine wpAny_bind (wpAny_field hzf rfl (x:=.bool false) rfl ?_)
 show wpAny _ _ (field (.ref z) 3 >>= fun a=>_) _ _ _
 refine wpAny_bind (wpAny_field hzf rfl (x:=.ref TI) rfl (wpAny_bind (wpAny_seqItems hTI rfl ?_)))
 show wpAny _ _ (Builtin.SmallTypes.ownedTupleIsFree (.ref z) >>= fun a=>_) _ _ _
 refine wpAny_bind (AV hzf hT fun g1 hz1 sb1=>?_)
 simp only[Bool.false_eq_true,if_false]
 have ht1:g1.IsListIter i1 l1 k1:=h1.extBut sb1.extBut D.i1z
 have ht2:g1.IsListIter i2 l2 k2:=h2.extBut sb1.extBut D.i2z
 have hL1:g1.IsList l1 xs:=hl1.extBut sb1.extBut D.l1z
 have hL2:g1.IsList l2 ys:=hl2.extBut sb1.extBut D.l2z
 rw[List.forIn_toArray]
 refine wpAny_bind ?_
 rw[List.forIn_cons]
 refine wpAny_bind (wpAny_bind (wpAny_holding ?_))
 show wpAny _ _ (Builtin.SmallTypes.nextOf (.ref i1) >>= fun v=>pure (some v)) _ _ _
 cases hx:xs[k1]? with
 | none=>
  exact wpAny_bind (wpAny_nextOf_list_end hh ht1 hL1 hx fun h' e hk he=>hE h' e (fun c o c1 c2 c3 q=>hk c o c2 (sb1.extBut _ _ c1 q)) he)
 | some x=>
  have hy:ys[k2]?=none:=by rcases hend with q | q;(rw[hx] at q;cases q);exact q
  refine wpAny_bind (wpAny_nextOf_list_item ht1 hL1 hx fun g2 hi1 sb2=>wpAny_pure (wpAny_pure ?_))
  show wpAny _ _ (forIn [Value.ref i2] _ _) _ _ _
  rw[List.forIn_cons]
  refine wpAny_bind (wpAny_bind (wpAny_holding ?_))
  show wpAny _ _ (Builtin.SmallTypes.nextOf (.ref i2) >>= fun v=>pure (some v)) _ _ _
  exact wpAny_bind (wpAny_nextOf_list_end hh (ht2.extBut sb2.extBut D.i12.symm) (hL2.extBut sb2.extBut D.l2i1) hy fun h' e hk he=>hE h' e (fun c o c1 c2 c3 q=>hk c o c3 (sb2.extBut _ _ c2 (sb1.extBut _ _ c1 q))) he)
theorem BI {z TI TO i1 i2 l1 l2 T:Addr} {f:Bool} {ob:Obj} {k1 k2:Nat} {xs ys:Array Value} {Q:Option Value→Shared→Prop} (hh:A.handled=none) (D:ZipApart z TI TO i1 i2 l1 l2) (hzf:i_ s.heap z TI TO T f)
  (hTI:IsPair s.heap TI (.ref i1) (.ref i2)) (hT:s.heap.get? T=some ob) (h1:s.heap.IsListIter i1 l1 k1) (h2:s.heap.IsListIter i2 l2 k2) (hl1:s.heap.IsList l1 xs) (hl2:s.heap.IsList l2 ys) (hend:xs[k1]?=none∨ys[k2]?=none)
  (hQ:∀ h',(∀ c o,c≠z→c≠i1→c≠i2→s.heap.get? c=some o→h'.get? c=some o)→Q none { s with heap:=h' }):wpAny (model prog w) A (pyNext (.ref z)) Q E s:=by
 have hTy:s.TypeIs (.ref z) "zip":=⟨_,hzf,rfl⟩
 unfold pyNext
 refine wpAny_bind (wpAny_attempt (wpAny_callSpecial?_slot (name:=Str.ofString "__next__") hTy F.slot_zip_next
  (wpAny_call_entry F.slot_zip_next hTy F.entry_zip_next (Ck hh D hzf hTI hT h1 h2 hl1 hl2 hend fun h' e hk he=>?_) (F.args_zip_next_1 _))))
 obtain⟨o,ho,hcl⟩:=he
 exact wpAny_bind (wpAny_isInstance (T:="StopIteration") (b:=true) ⟨o,ho,hcl⟩ isSubtype_stop (wpAny_pure (hQ _ hk)))
theorem Eg {R:Result→Shared→Prop} {I S:Addr} {res:Value} {n:Nat} (J:Nat→List Value→Shared→Prop) (hn:n < sizeLine) (hlen:∀ i acc s,J i acc s→acc.length=i)
  (item:∀ i acc s E,i < n→J i acc s→wpAny (model prog w) A.in1 (pyNext (.ref I)) (fun r s'=>∃ v c,r=some v∧s'.heap.get? S=some (cL acc c)∧∀ h',Heap.SameBut S s'.heap h'→h'.get? S=some (cL (acc++[v]) (c + 1))→J (i + 1) (acc++[v]) { s' with heap:=h' }) E s)
  (done:∀ acc s E,J n acc s→wpAny (model prog w) A.in1 (pyNext (.ref I)) (fun r s'=>r=none∧R (.ok (.ret res)) s') E s) :
  ∀ (k i:Nat) (acc:List Value) (s:Shared),n - i=k→i≤n→J i acc s→codeAny (model prog w) A (.builtin "list.extend.loop" ⟨[.ref S,.ref I,res],[]⟩) R s:=by
 intro k
 induction k with
 | zero=>
  intro i acc s hk hi hJ
  obtain rfl:i=n:=by omega
  refine codeAny_builtin F.entry_extend_loop ?_
  rw[Around.under_plainId F.plain_extend_loop _]
  show wpAny _ A.in1 (pyNext (.ref I) >>= fun r=>_) _ _ s
  refine wpAny_bind (thn (done acc s _ hJ) fun r s' ⟨hr,q⟩=>?_)
  subst hr
  exact wpAny_pure q
 | succ k ih=>
  intro i acc s hk hi hJ
  refine codeAny_builtin F.entry_extend_loop ?_
  rw[Around.under_plainId F.plain_extend_loop _]
  show wpAny _ A.in1 (pyNext (.ref I) >>= fun r=>_) _ _ s
  refine wpAny_bind (thn (item i acc s _ (by omega) hJ) fun r s' ⟨v,c,hr,hS,q⟩=>?_)
  subst hr
  have hl:=hlen i acc s hJ
  show wpAny _ A.in1 (updateSeq S (·.push v) >>= fun r=>_) _ _ _
  have eo:Obj.mapSeq (·.push v) (cL acc c)=cL (acc++[v]) (c + 1):=by
   show Obj.mapSeq (·.push v) { cls:=.type "list",dict:=none,data:=.seq acc.toArray c,slots:=#[] }=_
   rw[mapSeq_push,List.push_toArray]
  refine wpAny_bind (wpAny_updateSeq hS rfl (wpAny_pure ⟨plainId_quiet F.plain_extend_loop _,ih (i + 1) (acc++[v]) _ (by omega) (by omega) (q _ (Heap.SameBut.update ..) ?_)⟩) (by rw[List.size_toArray];omega) (by show (acc.toArray.push v).size≤sizeLine + 1;rw[Array.size_push,List.size_toArray];omega))
  rw[Heap.get?_update_self _ hS (by rw[eo];rfl),eo]
end
end L2
namespace L2
open PySem PySem.Spec PyProof.Rows
theorem Bg:typeLookup (.type "zip") "__len__"=pure none:=by rw[typeLookup_type,builtinLookup_eq_fast];kernel_rfl
theorem yO:typeLookup (.type "zip") "__length_hint__"=pure none:=by rw[typeLookup_type,builtinLookup_eq_fast];kernel_rfl
section
variable {X:Cx} {pins:List (Addr×Obj)} {σ:St} {H:Hp} {s:Shared}
theorem Inv.adopt {S:Addr} {xs:List V} {us:List Value} {c:Nat} (I:Inv X pins σ H s) (fS:gJ X pins H S) (hS:s.heap.get? S=some (cL us c)) (r:Vals xs us) (hz:xs.length≤sizeLine):Inv X pins σ (upd H S (.lst xs)) s:=by
 have neH:∀ {b:Addr} {u:HO},H b=some u→b≠S:=fun e z=>by rw[z,fS.1] at e;cases e
 refine⟨I.ok,I.os,I.bare,⟨I.base.keep,I.base.slot,fun b o e n hx=>?_,I.base.there,fun b ys e=>?_,fun b o u e=>?_,fun b ps e=>?_⟩,I.loc,I.cell,?_,fun x d e=>?_,fun p hp=>?_,fun b u e=>?_,I.len⟩
 ·have nb:b≠S:=fun z=>by
   rcases fS.2.2.2.1 with q | q
   ·exact hx (by rw[z];exact q)
   ·exact absurd (Nat.lt_of_lt_of_le (Heap.lt_size e) (by rw[z];exact q)) (Nat.lt_irrefl _)
  rw[au nb]
  exact I.base.free b o e n hx
 ·have q:=I.base.tups b ys e
  rw[au (neH q)];exact q
 ·have q:=I.base.frzs b o u e
  rw[au (neH q)];exact q
 ·obtain⟨m,q⟩:=I.base.tbls b ps e
  exact⟨m,by rw[au (neH q)];exact q⟩
 ·rw[au (Ne.symm fS.2.1)];exact I.free
 ·rw[au (fS.2.2.2.2.1 x d e)];exact I.freeC x d e
 ·obtain⟨e1,e2,e3⟩:=I.pin p hp
  exact⟨e1,by rw[au (fS.2.2.2.2.2 p hp)];exact e2,e3⟩
 ·by_cases hb:b=S
  ·subst hb
   rw[aN] at e
   cases e
   exact⟨hz,us,c,r,hS⟩
  ·rw[au hb] at e
   exact(I.hok b u e).t7 (fun _ _ _ q=>q) (fun d q=>by rw[au (neH q)];exact q) fun d ys q=>by rw[au (neH q)];exact q
theorem gJ.heap {b:Addr} {H':Hp} (f:gJ X pins H b) (h:H' b=none):gJ X pins H' b:=⟨h,f.2⟩
theorem uH:∀ ts:List Addr,Vals (ts.map V.ref) (ts.map Value.ref)
 | []=>.nil
 | _::r=>.cons rfl (uH r)
def K8 (H:Hp) (xs ys:List V) (Q:VK):Prop:=∀ (S:Addr) (ts:List Addr) (H':Hp),H S=none→aL H H'→H' S=some (.lst (ts.map V.ref))→ts.length=min xs.length ys.length→
 (∀ (j:Nat) t x y,ts[j]?=some t→xs[j]?=some x→ys[j]?=some y→H' t=some (.tup [x,y]))→(∀ t∈ts,H t=none)→Q (.ref S) H'
theorem yg {E:Value→Shared→Prop} {z TI TO i1 i2 l1 l2:Addr} {xs ys:List V} {Q:VK} (D:pC z TI TO i1 i2) (I:Inv X pins σ H s) (hc:X.calm=true) (hf:∀ b∈[z,TI,TO,i1,i2],gJ X pins H b) (st:HB z TI TO i1 i2 l1 l2 0 s.heap)
  (ha:H l1=some (.lst xs)) (hb:H l2=some (.lst ys)) (hn:min xs.length ys.length < sizeLine) (q:K8 H xs ys Q):wpAny (model X.prog X.w) X.A (call (.type "list") [.ref z]) (EP X pins σ Q) E s:=by
 obtain⟨hz,hTI,⟨a0,b0,hTO⟩,h1,h2⟩:=st
 obtain⟨S,hSe⟩:∃ S,S=s.heap.objs.size:=⟨_,rfl⟩
 have fS:gJ X pins H S:=by rw[hSe];exact I.p8 (Nat.le_refl _) (I.hok.fresh (Nat.le_refl _))
 have inS:∀ b∈[z,TI,TO,i1,i2],b < S:=fun b hb'=>by
  have hlt:∃ o,s.heap.get? b=some o:=by
   obtain⟨o1,e1,_⟩:=h1
   obtain⟨o2,e2,_⟩:=h2
   simp only[List.mem_cons,List.not_mem_nil,or_false] at hb'
   rcases hb' with rfl | rfl | rfl | rfl | rfl
   ·exact⟨_,hz⟩
   ·exact⟨_,hTI⟩
   ·exact⟨_,hTO⟩
   ·exact⟨_,e1⟩
   ·exact⟨_,e2⟩
  obtain⟨o,e⟩:=hlt
  rw[hSe];exact Heap.lt_size e
 have nS:∀ b∈[z,TI,TO,i1,i2],b≠S:=fun b hb'=>Nat.ne_of_lt (inS b hb')
 have apart:∀ H':Hp,aL H H'→(∀ b∈[z,TI,TO,i1,i2],H' b=none)→ZipApart z TI TO i1 i2 l1 l2:=fun H' sm nf=>by
  have ne1:∀ b∈[z,TI,TO,i1,i2],l1≠b:=fun b hb' e=>by have:=sm _ _ ha;rw[e,nf b hb'] at this;cases this
  have ne2:∀ b∈[z,TI,TO,i1,i2],l2≠b:=fun b hb' e=>by have:=sm _ _ hb;rw[e,nf b hb'] at this;cases this
  exact⟨D.TIz,D.TOz,D.i1z,D.i2z,D.TITO,D.TIi1,D.TIi2,D.TOi1,D.TOi2,D.i12,ne1 z (by simp),ne1 TO (by simp),ne1 i1 (by simp),ne1 i2 (by simp),ne2 z (by simp),ne2 TO (by simp),ne2 i1 (by simp),ne2 i2 (by simp)⟩
 let J:Nat→List Value→Shared→Prop:=fun i acc s'=>∃ (H':Hp) (ts:List Addr) (c:Nat),Inv X pins σ H' s'∧acc=ts.map Value.ref∧ts.length=i∧H' S=none∧s'.heap.get? S=some (cL acc c)∧aL H H'∧
  (∀ (j:Nat) t x y,ts[j]?=some t→xs[j]?=some x→ys[j]?=some y→H' t=some (.tup [x,y]))∧(∀ t∈ts,H' t≠none∧H t=none)∧(∀ b∈[z,TI,TO,i1,i2],H' b=none)∧(∃ o,s'.heap.get? TO=some o)∧IsPair s'.heap TI (.ref i1) (.ref i2)∧s'.heap.IsListIter i1 l1 i∧s'.heap.IsListIter i2 l2 i∧
  ((ts=[]∧IsZip s'.heap z TI TO .none∧∃ a b,IsPair s'.heap TO a b)∨∃ t r f,ts=t::r∧i_ s'.heap z TI TO t f)
 have alive:∀ {H':Hp} {s':Shared} {t:Addr},Inv X pins σ H' s'→H' t≠none→∃ o,s'.heap.get? t=some o:=fun {H' s' t} I' h=>by
  cases e:H' t with
  | none=>exact absurd e h
  | some o=>
   have lt:=I'.hok.lt e
   have x:=I'.hok t o e
   cases e2:s'.heap.get? t with
   | some ob=>exact⟨ob,rfl⟩
   | none=>
    exfalso
    cases o with
    | lst _=>obtain⟨_,_,_,_,e3⟩:=x;rw[e2] at e3;cases e3
    | tup _=>obtain⟨_,_,_,p⟩:=x;obtain⟨_,e3,_⟩:=p;rw[e2] at e3;cases e3
    | dK _=>obtain⟨_,_,_,_,_,_,_,e3,_⟩:=x;rw[e2] at e3;cases e3
    | dT _=>obtain⟨_,_,_,_,_,_,_,e3,_⟩:=x;rw[e2] at e3;cases e3
    | set _ _=>obtain⟨_,_,_,_,e3,_⟩:=x;rw[e2] at e3;cases e3
    | ins _ _ _=>obtain⟨_,_,_,e3,_⟩:=x;rw[e2] at e3;cases e3
    | own _=>obtain⟨_,e3⟩:=x;rw[e2] at e3;cases e3
    | xd _=>obtain⟨_,⟨_,_,_,e3,_⟩,_⟩:=x;rw[e2] at e3;cases e3
    | rng _ _=>obtain⟨_,_,_,e3⟩:=x;rw[e2] at e3;cases e3
    | frz _ _=>obtain⟨e3,_⟩:=x;rw[e2] at e3;cases e3
    | tbl _=>have e3:s'.heap.get? t=some _:=x;rw[e2] at e3;cases e3
    | met _ _=>have e3:s'.heap.get? t=some _:=x;rw[e2] at e3;cases e3
    | ext _=>obtain⟨_,⟨_,e3⟩,_⟩:=x;rw[e2] at e3;cases e3
 have chOk:∀ {H':Hp},(∀ b∈[z,TI,TO,i1,i2],H' b=none)→∀ b∈[z,TO,i1,i2],gJ X pins H' b:=fun {H'} nf b hb'=>by
  have hb2:b∈[z,TI,TO,i1,i2]:=by
   simp only[List.mem_cons,List.not_mem_nil,or_false] at hb' ⊢
   rcases hb' with e | e | e | e <;> simp [e]
  exact(hf b hb2).heap (nf b hb2)
 have step:∀ (i:Nat) (H':Hp) (ts:List Addr) (c:Nat) (s':Shared) (h':Heap) (x y:V) (u v:Value),Inv X pins σ H' s'→ts.length=i→H' S=none→s'.heap.get? S=some (cL (ts.map Value.ref) c)→aL H H'→
   (∀ (j:Nat) t x y,ts[j]?=some t→xs[j]?=some x→ys[j]?=some y→H' t=some (.tup [x,y]))→(∀ t∈ts,H' t≠none∧H t=none)→(∀ b∈[z,TI,TO,i1,i2],H' b=none)→(∀ b∈[z,TI,TO,i1,i2],∃ o,s'.heap.get? b=some o)→IsPair s'.heap TI (.ref i1) (.ref i2)→xs[i]?=some x→ys[i]?=some y→RelV x u→RelV y v→
   (∀ b o,b∉[z,TO,i1,i2]→s'.heap.get? b=some o→h'.get? b=some o)→(∃ o,h'.get? TO=some o)→IsPair h' s'.heap.objs.size u v→h'.IsListIter i1 l1 (i + 1)→h'.IsListIter i2 l2 (i + 1)→(∃ t r f,ts++[s'.heap.objs.size]=t::r∧i_ h' z TI TO t f)→
   ∃ v' c',some (Value.ref s'.heap.objs.size)=some v'∧h'.get? S=some (cL (ts.map Value.ref) c')∧∀ g,Heap.SameBut S h' g→g.get? S=some (cL (ts.map Value.ref++[v']) (c' + 1))→J (i + 1) (ts.map Value.ref++[v']) { s' with heap:=g }:=by
  intro i H' ts c s' h' x y u v I' hl hHS hS sm hts hal nf ex hTI' hx hy ru rv hk hTOx hT hi1 hi2 hzz
  have Slt:S < s'.heap.objs.size:=Heap.lt_size hS
  have ST:S≠s'.heap.objs.size:=Nat.ne_of_lt Slt
  have fT:H' s'.heap.objs.size=none:=I'.hok.fresh (Nat.le_refl _)
  have hSn:S∉[z,TO,i1,i2]:=fun hm=>by
   simp only[List.mem_cons,List.not_mem_nil,or_false] at hm
   rcases hm with e | e | e | e
   ·exact nS z (by simp) e.symm
   ·exact nS TO (by simp) e.symm
   ·exact nS i1 (by simp) e.symm
   ·exact nS i2 (by simp) e.symm
  refine⟨_,c,rfl,hk S _ hSn hS,fun g sb hg=>?_⟩
  have I1:Inv X pins σ (upd H' s'.heap.objs.size (.tup [x,y])) { s' with heap:=h' }:=I'.vW (t':=s'.toks) (chOk nf) (Nat.le_refl _) hk ⟨_,hT,rfl,_,rfl⟩ ru rv
  have nT:∀ b∈[z,TI,TO,i1,i2],b≠s'.heap.objs.size:=fun b hb'=>by obtain⟨o,e⟩:=ex b hb';exact Nat.ne_of_lt (Heap.lt_size e)
  have hS2:(upd H' s'.heap.objs.size (.tup [x,y])) S=none:=by rw[au ST];exact hHS
  have I2:Inv X pins σ (upd H' s'.heap.objs.size (.tup [x,y])) { s' with heap:=g }:=I1.moved (t':=s'.toks) (ch:=[S]) (fun b hb'=>by
   have e:b=S:=by simpa using hb'
   rw[e];exact fS.heap hS2) fun b o hb' e=>(sb.2 b fun z'=>hb' (by simp [z'])).trans e
  have nTt:∀ {t:Addr},H' t≠none→t≠s'.heap.objs.size:=fun h e=>h (by rw[e];exact fT)
  refine⟨upd H' s'.heap.objs.size (.tup [x,y]),ts++[s'.heap.objs.size],c + 1,I2,by rw[List.map_append];rfl,by rw[List.length_append,hl];rfl,hS2,hg,fun b o e=>?_,fun j t x' y' ht hx' hy'=>?_,fun t ht=>?_,fun b hb'=>?_,?_,?_,?_,?_,?_⟩
  ·have e':=sm b o e
   rw[au (fun z'=>by rw[z',fT] at e';cases e')];exact e'
  ·by_cases hj:j < ts.length
   ·rw[List.getElem?_append_left hj] at ht
    have e':=hts j t x' y' ht hx' hy'
    rw[au (nTt (by rw[e'];simp))];exact e'
   ·have hj2:j=ts.length:=by
     have:=(List.getElem?_eq_some_iff.mp ht).1
     rw[List.length_append,List.length_singleton] at this
     omega
    subst hj2
    rw[List.getElem?_append_right (Nat.le_refl _),Nat.sub_self] at ht
    have et:t=s'.heap.objs.size:=(Option.some.inj ht).symm
    rw[hl] at hx' hy'
    rw[hx] at hx';rw[hy] at hy'
    cases hx';cases hy'
    rw[et];exact aN
  ·rcases List.mem_append.mp ht with z' | z'
   ·rw[au (nTt (hal t z').1)];exact hal t z'
   ·have e:t=s'.heap.objs.size:=by simpa using z'
    rw[e,aN];exact⟨by simp,sm.free fT⟩
  ·rw[au (nT b hb')];exact nf b hb'
  ·obtain⟨o,e⟩:=hTOx
   exact⟨o,(sb.2 TO (nS TO (by simp))).trans e⟩
  ·exact(sb.2 TI (nS TI (by simp))).trans (hk TI _ (by simp [D.TIz,D.TITO,D.TIi1,D.TIi2]) hTI')
  ·exact hi1.extBut sb.extBut (nS i1 (by simp))
  ·exact hi2.extBut sb.extBut (nS i2 (by simp))
  ·obtain⟨t,r,f,e,hzf⟩:=hzz
   exact .inr ⟨t,r,f,e,(sb.2 z (nS z (by simp))).trans hzf⟩
 refine callType_codes (Q₁:=fun obj s₁=>obj=.ref S∧s₁={ s with heap:=s.heap.push { cls:=.type "list",data:=.seq #[] } }) F.called_list (F.typeCall_list_1 _) F.entry_list_init (code_list_new _ ⟨by rw[hSe],rfl⟩) fun obj s₁ e₁=>?_
 obtain⟨rfl,rfl⟩:=e₁
 have hS0:(s.heap.push { cls:=.type "list",data:=.seq #[] }).get? S=some { cls:=.type "list",data:=.seq #[] }:=by rw[hSe];exact Heap.get?_push_size _ rfl
 have up0:∀ b o,s.heap.get? b=some o→(s.heap.push { cls:=.type "list",data:=.seq #[] }).get? b=some o:=fun b o e=>Heap.get?_push_of_some _ e
 have I0:Inv X pins σ H { s with heap:=s.heap.push { cls:=.type "list",data:=.seq #[] } }:=I.kept (t':=s.toks) up0
 refine⟨⟨_,hS0,rfl⟩,F.args_list_init_2 _ _,?_⟩
 show wpAny _ X.A.in1.in1 (Builtin.List.listItems (.ref S) >>= fun old=>Builtin.List.listUpdate (.ref S) (fun _=>#[]) >>= fun _=>letGo old.toList.reverse >>= fun _=>Builtin.List.listExtendWith (.ref S) (.ref z) .none) _ _ _
 unfold Builtin.List.listItems
 refine wpAny_bind (wpAny_bind (wpAny_seqItems hS0 rfl (wpAny_pure ?_)))
 show wpAny _ X.A.in1.in1 (updateSeq S (fun _=>#[]) >>= fun _=>letGo (#[]:Array Value).toList.reverse >>= fun _=>Builtin.List.listExtendWith (.ref S) (.ref z) .none) _ _ _
 refine wpAny_bind (wpAny_updateSeq hS0 rfl (wpAny_bind (wpAny_letGo ?_)))
 have hS1:=Heap.get?_update_self (Obj.mapSeq (fun _=>(#[]:Array Value))) hS0 rfl
 have up1:∀ b o,b≠S→s.heap.get? b=some o→((s.heap.push { cls:=.type "list",data:=.seq #[] }).update S (Obj.mapSeq (fun _=>(#[]:Array Value)))).get? b=some o:=fun b o nb e=>(Heap.get?_update_other _ _ (Ne.symm nb)).trans (up0 b o e)
 generalize hg1:(s.heap.push { cls:=.type "list",data:=.seq #[] }).update S (Obj.mapSeq (fun _=>(#[]:Array Value)))=g1 at hS1 up1
 have hzT:∀ g:Heap,(∀ b o,b≠S→s.heap.get? b=some o→g.get? b=some o)→g.get? z=some _:=fun g k=>k z _ (nS z (by simp)) hz
 have TyZ:∀ s':Shared,s'.heap.get? z=some { cls:=.type "zip",dict:=none,data:=.fields #[.none,.bool false,.bool false,.ref TI,.ref TO],slots:=#[] }→s'.TypeIs (.ref z) "zip":=fun s' e=>⟨_,e,rfl⟩
 unfold Builtin.List.listExtendWith
 refine wpAny_bind (wpAny_typeOf (TyZ _ (hzT g1 up1)) ?_)
 have b1:Builtin.List.listSameRef (.ref S) (.ref z)=false:=by simp [Builtin.List.listSameRef,(nS z (by simp)).symm]
 have b2:(Value.type "zip" == Value.type "list")=false:=by decide
 have b3:(Value.type "zip" == Value.type "tuple")=false:=by decide
 simp only[b1,b2,b3,Bool.or_false,Bool.false_eq_true,if_false]
 refine wpAny_bind (wpAny_pyIter_zip (hzT g1 up1) (wpAny_bind (wpAny_holding ?_)))
 unfold Builtin.List.listLengthHint
 refine wpAny_bind (wpAny_specialOf (TyZ _ (hzT g1 up1)) Bg ?_)
 show wpAny _ X.A.in1.in1 (specialOf (Value.ref z) (Str.ofString "__length_hint__") >>= fun a=>_) _ _ _
 refine wpAny_bind (wpAny_specialOf (TyZ _ (hzT g1 up1)) yO (wpAny_pure ?_))
 show wpAny _ X.A.in1.in1 (rule "list.extend.makes-room" >>= fun _=>Builtin.List.listTouch (.ref S) >>= fun _=>again (.builtin "list.extend.loop" ⟨[.ref S,.ref z,.none],[]⟩)) _ _ _
 refine wpAny_bind (wpAny_rule (wpAny_bind ?_))
 show wpAny _ X.A.in1.in1 (updateSeq S (·.push .none) >>= fun _=>updateSeq S (·.pop)) _ _ _
 refine wpAny_bind (wpAny_updateSeq hS1 rfl ?_)
 have hS2:=Heap.get?_update_self (Obj.mapSeq (·.push Value.none)) hS1 rfl
 refine wpAny_updateSeq (hz:=by seq_fits) hS2 rfl ?_
 have hS3:=Heap.get?_update_self (Obj.mapSeq (·.pop)) hS2 rfl
 have up3:∀ b o,b≠S→s.heap.get? b=some o→((g1.update S (Obj.mapSeq (·.push Value.none))).update S (Obj.mapSeq (·.pop))).get? b=some o:=
  fun b o nb e=>(Heap.get?_update_other _ _ (Ne.symm nb)).trans ((Heap.get?_update_other _ _ (Ne.symm nb)).trans (up1 b o nb e))
 generalize hg3:(g1.update S (Obj.mapSeq (·.push Value.none))).update S (Obj.mapSeq (·.pop))=g3 at hS3 up3
 have I3:Inv X pins σ H { s with heap:=g3 }:=I.moved (t':=s.toks) (ch:=[S]) (fun b hb'=>by
  have e:b=S:=by simpa using hb'
  rw[e];exact fS) fun b o hb' e=>up3 b o (fun z'=>hb' (by simp [z'])) e
 obtain⟨c0,hc0⟩:∃ c0,g3.get? S=some (cL [] c0):=⟨_,hS3⟩
 have J0:J 0 [] { s with heap:=g3 }:=⟨H,[],c0,I3,rfl,rfl,fS.1,hc0,aL.refl H,fun j t x y h=>by simp at h,fun t h=>by simp at h,fun b hb'=>(hf b hb').1,⟨_,up3 TO _ (nS TO (by simp)) hTO⟩,up3 TI _ (nS TI (by simp)) hTI,h1.at fun o e=>up3 i1 o (nS i1 (by simp)) e,h2.at fun o e=>up3 i2 o (nS i2 (by simp)) e,
  .inl ⟨rfl,up3 z _ (nS z (by simp)) hz,a0,b0,up3 TO _ (nS TO (by simp)) hTO⟩⟩
 refine wpAny_pure ⟨plainId_quiet F.plain_extend_loop _,Eg J hn (fun i acc s' h=>?_) (fun i acc s' E' hi h=>?_) (fun acc s' E' h=>?_) _ 0 [] _ rfl (Nat.zero_le _) J0⟩
 ·obtain⟨_,ts,_,_,e,l,_⟩:=h
  rw[e,List.length_map,l]
 ·obtain⟨H',ts,c,I',rfl,hl,hHS,hS,sm,hts,hal,nf,toEx,hTI',hi1,hi2,hzz⟩:=h
  have Z:=apart H' sm nf
  obtain⟨ia,na,ra,ea,_⟩:=I'.lst (sm _ _ ha)
  obtain⟨ib,nb,rb,eb,_⟩:=I'.lst (sm _ _ hb)
  have hix:i < xs.length:=by omega
  have hiy:i < ys.length:=by omega
  have hx:xs[i]?=some xs[i]:=List.getElem?_eq_getElem hix
  have hy:ys[i]?=some ys[i]:=List.getElem?_eq_getElem hiy
  obtain⟨u,hu,ru⟩:=ra.get hx
  obtain⟨v,hv,rv⟩:=rb.get hy
  have LA:s'.heap.IsList l1 ia.toArray:=⟨_,ea,rfl,_,rfl⟩
  have LB:s'.heap.IsList l2 ib.toArray:=⟨_,eb,rfl,_,rfl⟩
  have exb:∀ zo:∃ o,s'.heap.get? z=some o,∀ to:∃ o,s'.heap.get? TO=some o,∀ b∈[z,TI,TO,i1,i2],∃ o,s'.heap.get? b=some o:=fun zo to b hb'=>by
   obtain⟨o1,e1,_⟩:=hi1
   obtain⟨o2,e2,_⟩:=hi2
   simp only[List.mem_cons,List.not_mem_nil,or_false] at hb'
   rcases hb' with rfl | rfl | rfl | rfl | rfl
   ·exact zo
   ·exact⟨_,hTI'⟩
   ·exact to
   ·exact⟨_,e1⟩
   ·exact⟨_,e2⟩
  rcases hzz with ⟨rfl,hz',a,b,hTO'⟩ | ⟨t,r,f,rfl,hzf⟩
  ·refine wpAny_pyNext_zip_item Z hz' hTI' hTO' hi1 hi2 LA LB (x:=u) (y:=v) (by simpa using hu) (by simpa using hv) fun h' a1 a2 a3 a4 a5 a6 hk=>?_
   exact step i H' [] c s' h' _ _ u v I' hl hHS hS sm hts hal nf (exb ⟨_,hz'⟩ ⟨_,hTO'⟩) hTI' hx hy ru rv (fun b o hb' e=>by
    simp only[List.mem_cons,List.not_mem_nil,or_false,not_or] at hb'
    exact hk b o hb'.1 hb'.2.1 hb'.2.2.1 hb'.2.2.2 e) ⟨_,a2⟩ a5 a3 a4 ⟨_,[],false,rfl,a1⟩
  ·obtain⟨ot,et⟩:=alive I' (hal t List.mem_cons_self).1
   refine BJ Z hzf hTI' et hi1 hi2 LA LB (x:=u) (y:=v) (by simpa using hu) (by simpa using hv) fun h' a1 a2 a3 a4 hk=>?_
   exact step i H' (t::r) c s' h' _ _ u v I' hl hHS hS sm hts hal nf (exb ⟨_,hzf⟩ toEx) hTI' hx hy ru rv (fun b o hb' e=>by
    simp only[List.mem_cons,List.not_mem_nil,or_false,not_or] at hb'
    exact hk b o hb'.1 hb'.2.2.1 hb'.2.2.2 e) (by obtain⟨o,e⟩:=toEx;exact⟨o,hk TO o D.TOz D.TOi1 D.TOi2 e⟩) a4 a2 a3 ⟨t,r++[_],true,rfl,a1⟩
 ·obtain⟨H',ts,c,I',rfl,hl,hHS,hS,sm,hts,hal,nf,toEx,hTI',hi1,hi2,hzz⟩:=h
  have Z:=apart H' sm nf
  obtain⟨ia,na,ra,ea,_⟩:=I'.lst (sm _ _ ha)
  obtain⟨ib,nb,rb,eb,_⟩:=I'.lst (sm _ _ hb)
  have LA:s'.heap.IsList l1 ia.toArray:=⟨_,ea,rfl,_,rfl⟩
  have LB:s'.heap.IsList l2 ib.toArray:=⟨_,eb,rfl,_,rfl⟩
  have la:=ra.length
  have lb:=rb.length
  have hend:ia.toArray[min xs.length ys.length]?=none∨ib.toArray[min xs.length ys.length]?=none:=by
   by_cases hle:xs.length≤ys.length
   ·left;simp;omega
   ·right;simp;omega
  have fin:∀ h',(∀ b o,b∉[z,TO,i1,i2]→s'.heap.get? b=some o→h'.get? b=some o)→wants (fun r s₂=>r=.none∧EP X pins σ Q (.ref S) s₂) E (.ok (.ret .none)) { s' with heap:=h' }:=fun h' hk=>by
   have I4:Inv X pins σ H' { s' with heap:=h' }:=I'.moved (t':=s'.toks) (chOk nf) hk
   have hS4:h'.get? S=some (cL (ts.map Value.ref) c):=hk S _ (fun hm=>by
    simp only[List.mem_cons,List.not_mem_nil,or_false] at hm
    rcases hm with e | e | e | e
    ·exact nS z (by simp) e.symm
    ·exact nS TO (by simp) e.symm
    ·exact nS i1 (by simp) e.symm
    ·exact nS i2 (by simp) e.symm) hS
   have I5:=I4.adopt (fS.heap hHS) hS4 (uH ts) (by rw[List.length_map,hl];omega)
   have sm5:aL H (upd H' S (.lst (ts.map V.ref))):=fun b o e=>by rw[au (bE (sm b o e) hHS)];exact sm b o e
   exact⟨rfl,.ref S,_,I5,rfl,q S ts _ fS.1 sm5 aN hl (fun j t x y ht hx hy=>by
    have e:=hts j t x y ht hx hy
    rw[au (bE e hHS)];exact e) fun t ht=>(hal t ht).2⟩
  rcases hzz with ⟨rfl,hz',a,b,hTO'⟩ | ⟨t,r,f,rfl,hzf⟩
  ·exact wpAny_pyNext_zip_end (I.ok.hd hc) Z hz' hTI' hTO' hi1 hi2 LA LB hend fun h' hk=>⟨rfl,fin h' fun b o hb' e=>by
    simp only[List.mem_cons,List.not_mem_nil,or_false,not_or] at hb'
    exact hk b o hb'.1 hb'.2.1 hb'.2.2.1 hb'.2.2.2 e⟩
  ·obtain⟨ot,et⟩:=alive I' (hal t List.mem_cons_self).1
   exact BI (I.ok.hd hc) Z hzf hTI' et hi1 hi2 LA LB hend fun h' hk=>⟨rfl,fin h' fun b o hb' e=>by
    simp only[List.mem_cons,List.not_mem_nil,or_false,not_or] at hb'
    exact hk b o hb'.1 hb'.2.2.1 hb'.2.2.2 e⟩
def xu (t:TA):TE:=fun σ H Q=>t σ H fun vs H1=>∃ (p q:Addr) (xs ys:List V),vs=[.ref p,.ref q]∧H1 p=some (.lst xs)∧H1 q=some (.lst ys)∧min xs.length ys.length < sizeLine∧K8 H1 xs ys Q
theorem zb {a b:Expr} {ta:TA} {p p2 pos pos2:Pos} (hc:X.calm=true) (hg:Gl X "list") (hm:X.mg "list"=none) (hg2:Gl X "zip") (hm2:X.mg "zip"=none) (ha:PA X [a,b] ta)
  (hs:starEach [a,b] X.env=[(false,eval a X.env),(false,eval b X.env)]:=by rfl) (hs2:starEach [b] X.env=[(false,eval b X.env)]:=by rfl) (hs3:starEach [Expr.Call (.Name "zip" p2) [a,b] [] pos2] X.env=[(false,eval (.Call (.Name "zip" p2) [a,b] [] pos2) X.env)]:=by rfl) :
  PE X (.Call (.Name "list" p) [.Call (.Name "zip" p2) [a,b] [] pos2] [] pos) (xu ta):=by
 intro pins s σ H Q I h
 refine wpAny_Call_Name_kw (g_ I hg hm (by decide +kernel:bootBuiltins "list"=some (.type "list")) ?_)
 refine PyProof.Rows.callWith_type1 ?_ (by rw[hs3];rfl) rfl
 rw[hs3]
 show wpAny _ _ (spliced ((false,eval (.Call (.Name "zip" p2) [a,b] [] pos2) X.env)::backTo pos [])) _ _ s
 refine Calls.spliced_cons (Call_ (g_ I hg2 hm2 (by decide +kernel:bootBuiltins "zip"=some (.type "zip")) (PyProof.Rows.callWith_type1 (thn (ha pos2 pins s σ H _ I h) fun us s1 ⟨vs,H1,I1,r1,q1⟩=>?_) (by rw[hs,hs2]) (by rw[hs2];rfl))))
 obtain⟨l1,l2,xs,ys,e,h1,h2,hn,q⟩:=q1
 subst e
 obtain⟨u,w',rfl,ru,rw'⟩:=vals2 r1
 cases ru
 cases rw'
 obtain⟨ia,na,ra,ea,_⟩:=I1.lst h1
 obtain⟨ib,nb,rb,eb,_⟩:=I1.lst h2
 refine call_zip_2 (xs:=ia.toArray) (ys:=ib.toArray) ⟨_,ea,rfl,_,rfl⟩ ⟨_,eb,rfl,_,rfl⟩ fun h' hz hTI hTO hi1 hi2 hsz hk=>?_
 have I2:Inv X pins σ H1 { s1 with heap:=h' }:=I1.kept (t':=s1.toks) hk
 have lt:∀ i j:Nat,i < j→s1.heap.objs.size + i≠s1.heap.objs.size + j:=fun i j h e=>by omega
 have D:pC (s1.heap.objs.size + 4) (s1.heap.objs.size + 2) (s1.heap.objs.size + 3) s1.heap.objs.size (s1.heap.objs.size + 1):=
  ⟨lt 2 4 (by decide),lt 3 4 (by decide),lt 0 4 (by decide),lt 1 4 (by decide),lt 2 3 (by decide),(lt 0 2 (by decide)).symm,(lt 1 2 (by decide)).symm,(lt 0 3 (by decide)).symm,(lt 1 3 (by decide)).symm,lt 0 1 (by decide)⟩
 refine Calls.spliced_nil ?_
 refine yg D I2 hc (fun b hb=>?_) ⟨hz,hTI,⟨_,_,hTO⟩,hi1,hi2⟩ h1 h2 hn q
 have hge:s1.heap.objs.size≤b:=by
  simp only[List.mem_cons,List.not_mem_nil,or_false] at hb
  rcases hb with rfl | rfl | rfl | rfl | rfl <;> omega
 exact I1.p8 hge (I1.hok.fresh hge)
end
end L2
namespace L2
open PySem PySem.Spec PyProof.Rows
section
variable {X:Cx} {C:Addr} {x:Str} {p pos:Pos}
structure Mk0 (K:PySem.W.Frag) (C:Addr):Prop where
 makes:PySem.W.makesIn K C=true
 init:PySem.W.findIn K (.ref C) "__init__"=some (some (.builtin "object.__init__"))
 kp:PySem.W.keepIn K (.ref C)=true
def Ai (C:Addr):TE:=fun _ H Q=>∀ x dx,H x=none→H dx=none→dx≠x→Q (.ref x) (upd (upd H dx (.own x)) x (.ins C dx []))
theorem BB (M:Mk0 X.K C) (hg:Gl X x) (hm:X.mg x=some (.ref C)) (hdb:(x == ("__debug__":Str))=false:=by decide):PE X (.Call (.Name x p) [] [] pos) (Ai C):=by
 intro pins s σ H Q I h
 refine wpAny_Call_Name_kw (pf I hg hm ?_ hdb)
 refine PySem.W.callWith_K0 I.kIn M.kp (wpAny_call ?_)
 have hq:=h (s.heap.objs.size + 1) s.heap.objs.size (I.hok.fresh (Nat.le_succ _)) (I.hok.fresh (Nat.le_refl _)) (Nat.ne_of_lt (Nat.lt_succ_self _))
 have I2:=Inv.made (C:=C) I
 have Y:=PySem.W.makes_of (M:=model X.prog X.w) I.kIn M.makes
 refine BN I.kIn M.makes M.init (fun self=>PySem.W.Looks.of_pure (PySem.W.oi_bind self)) ?_
 have e2:((s.heap.push PySem.W.emptyDict).push (PySem.W.instObj C s.heap.objs.size)).get? (s.heap.objs.size + 1)=some (PySem.W.instObj C s.heap.objs.size):=by
  have:=Heap.get?_push_size (s.heap.push PySem.W.emptyDict) (o:=PySem.W.instObj C s.heap.objs.size) rfl
  rwa [Heap.size_push] at this
 have t1:PySem.W.Looks (model X.prog X.w) ((s.heap.push PySem.W.emptyDict).push (PySem.W.instObj C s.heap.objs.size)) (typeOf (.ref (s.heap.objs.size + 1))) (.ref C):=(PySem.W.Looks.ld e2).andThen .now
 have t2:PySem.W.Looks (model X.prog X.w) ((s.heap.push PySem.W.emptyDict).push (PySem.W.instObj C s.heap.objs.size)) (isInstance (.ref (s.heap.objs.size + 1)) (.type "object")) true:=t1.andThen (Y.top.keeps fun b o e=>Heap.get?_push_of_some _ (Heap.get?_push_of_some _ e))
 refine codeAny_call_builtin PySem.W.oi_plain PySem.W.entry_oi (@PySem.W.check_slot (model X.prog X.w) _ _ _ "object.__init__" "object" "__init__" (.ref (s.heap.objs.size + 1)) [] [] _ PySem.W.oi_kind PySem.W.oi_split t2 (PySem.W.oi_args (.ref (s.heap.objs.size + 1))) ?_)
 rw[PySem.W.oi_run]
 exact wpAny_pure (And.intro rfl ⟨V.ref (s.heap.objs.size + 1),_,I2,rfl,hq⟩)
end
theorem wL {α β:Type} {f:α→Option β} {g:α→β}:∀ {l:List α},(∀ k∈l,f k=some (g k))→l.filterMap f=l.map g
 | [],_=>rfl
 | k::l,h=>by
  rw[List.filterMap_cons,h k List.mem_cons_self,List.map_cons,wL fun j hj=>h j (List.mem_cons_of_mem _ hj)]
theorem KO (ns:List Int) {k:Nat} (h:k < ns.length):(ns.map V.int)[k]?=some (V.int (ns.getD k 0)):=by
 rw[List.getElem?_map,List.getD_eq_getElem?_getD,List.getElem?_eq_getElem h]
 rfl
theorem J_ (ns:List Int):lJ (ns.map V.int) (some 0) none (some 2)=(List.range ((ns.length + 1) / 2)).map fun k=>V.int (ns.getD (2 * k) 0):=by
 have e:sliceBounds (some 0) none (some 2) (ns.map V.int).length=(0,(ns.length:Int),2):=by
  simp [sliceBounds];omega
 unfold lJ
 rw[e]
 have e2:sliceRange 0 (ns.length:Int) 2=(List.range ((ns.length + 1) / 2)).map fun k=>2 * k:=by
  unfold sliceRange
  have ec:(if (2:Int) > 0 then (if (0:Int) < (ns.length:Int) then ((ns.length:Int) - 0 + 2 - 1) / 2 else 0) else (if (0:Int) > (ns.length:Int) then (0 - (ns.length:Int) - 2 - 1) / (-2) else 0)).toNat=(ns.length + 1) / 2:=by
   rw[if_pos (by decide)]
   split <;> omega
  simp only[ec]
  refine List.map_congr_left fun k _=>?_
  omega
 simp only[e2,List.filterMap_map]
 refine wL fun k hk=>?_
 have:=List.mem_range.mp hk
 exact KO ns (show 2 * k < ns.length by omega)
theorem J9 (ns:List Int):lJ (ns.map V.int) (some 1) none (some 2)=(List.range (ns.length / 2)).map fun k=>V.int (ns.getD (2 * k + 1) 0):=by
 have e:sliceBounds (some 1) none (some 2) (ns.map V.int).length=(min 1 (ns.length:Int),(ns.length:Int),2):=by
  simp [sliceBounds];omega
 unfold lJ
 rw[e]
 have e2:sliceRange (min 1 (ns.length:Int)) (ns.length:Int) 2=(List.range (ns.length / 2)).map fun k=>2 * k + 1:=by
  unfold sliceRange
  have ec:(if (2:Int) > 0 then (if min 1 (ns.length:Int) < (ns.length:Int) then ((ns.length:Int) - min 1 (ns.length:Int) + 2 - 1) / 2 else 0) else (if min 1 (ns.length:Int) > (ns.length:Int) then (min 1 (ns.length:Int) - (ns.length:Int) - 2 - 1) / (-2) else 0)).toNat=ns.length / 2:=by
   rw[if_pos (by decide)]
   split <;> omega
  simp only[ec]
  refine List.map_congr_left fun k hk=>?_
  have:=List.mem_range.mp hk
  omega
 simp only[e2,List.filterMap_map]
 refine wL fun k hk=>?_
 have:=List.mem_range.mp hk
 exact KO ns (show 2 * k + 1 < ns.length by omega)
end L2
namespace L2
open PySem PySem.Spec PyProof.Rows
def EV (lo c:Int) (n:Nat):It:=⟨fun i _=>i < n,fun i H x H'=>H'=H∧x=.int (lo + i * c),fun i _=>n≤i⟩
theorem qw {P:Program} {w:World} {K:PySem.W.Frag} {tg:Expr} (it:Addr) (lo c:Int) (n:Nat):Turn P w K tg (EV lo c n) [it] it (fun i h=>IsRangeIter h it (lo + (i:Nat) * c) ((n:Int) - (i:Nat)) c) where
 mem:=by simp
 obj:=fun i h st b hb=>by
  obtain rfl:b=it:=by simpa using hb
  exact⟨_,st,fun v z=>by cases (show Data.fields _=Data.cell v from z)⟩
 keep:=fun i h h' st k=>k it (by simp) _ st
 item:=by
  intro X hP hw hK hc i pins s σ H E I hf st hg
  subst hP hw hK
  obtain⟨f0,f1,f2,f3,f4,f5⟩:=hf it (by simp)
  refine(Walks.range (prog:=X.prog) (w:=X.w) (I.ok.hd hc) it lo c n).item i s _ _ hg st fun v h' tk hv st' kk=>?_
  obtain⟨t,rfl⟩:=hv
  have I1:Inv X pins σ H { s with heap:=h',toks:=tk }:=I.turned (fun b o hb e=>kk b o (by simpa using hb) e) f0 f1 f3 f4 f5
  exact⟨_,rfl,AU (s:={ s with heap:=h',toks:=tk }) (n:="range_iterator") st' rfl rfl (by decide) ⟨.int (lo + i * c),H,I1,⟨t,rfl⟩,⟨rfl,rfl⟩,st',fun b hb=>(hf b hb).1⟩⟩
 done:=by
  intro X hP hw hK hc i pins s σ H E I hf st hg
  subst hP hw hK
  obtain⟨f0,f1,f2,f3,f4,f5⟩:=hf it (by simp)
  have hg':n≤i:=hg
  exact wpAny_pyNext_range_end (I.ok.hd hc) st (by omega) fun h' eb=>⟨rfl,I.turned (t':=s.toks) (fun b o hb e=>eb b o hb e) f0 f1 f3 f4 f5⟩
 self:=fun _ _ _ _ _ st h=>wpAny_pyIter_rangeiter st h
def Kt (lo hi:Int):Nat:=((hi - lo + 1) / 2).toNat
section
variable {X:Cx} {tg:Expr}
def L6 (ta:TA):TI:=fun σ H R=>ta σ H fun vs H1=>∃ i j:Int,vs=[.int i,.int j,.int 2]∧(-1000000≤i∧i≤1000000∧-1000000≤j∧j≤1000000)∧R (EV i 2 (Kt i j)) H1
end
end L2
namespace L2
open PySem PySem.Spec PyProof.Rows
end L2
namespace L2
open PySem PySem.Spec PyProof.Rows
def sgn (c:Nat):Str:=⟨#[c]⟩
def Its (x:Str):It:=⟨fun i _=>i < x.cps.size,fun i H v H'=>H'=H∧∃ c,x.cps[i]?=some c∧v=.str (sgn c),fun i _=>x.cps.size≤i⟩
theorem Ct {P:Program} {w:World} {K:PySem.W.Frag} {tg:Expr} (it:Addr) (x:Str) (t:Tok):Turn P w K tg (Its x) [it] it (fun i h=>h.IsStrIter it "str_ascii_iterator" x t i) where
 mem:=by simp
 obj:=fun i h st b hb=>by
  obtain rfl:b=it:=by simpa using hb
  obtain⟨o,e,c,d⟩:=st
  exact⟨o,e,fun v z=>by rw[d] at z;cases z⟩
 keep:=fun i h h' st k=>let ⟨o,e,r⟩:=st;⟨o,k it (by simp) o e,r⟩
 item:=by
  intro X hP hw hK hc i pins s σ H E I hf st hg
  subst hP hw hK
  obtain⟨f0,f1,f2,f3,f4,f5⟩:=hf it (by simp)
  have hg':i < x.cps.size:=hg
  refine wpAny_pyNext_ascii_item st (c:=x.cps[i]) (by simp [hg']) fun h' st' sb=>?_
  have I1:Inv X pins σ H { s with heap:=h',toks:=s.toks + 1 }:=I.turned (fun b o hb e=>(sb.2 b hb).trans e) f0 f1 f3 f4 f5
  obtain⟨o,e,c,d⟩:=id st'
  exact⟨_,rfl,AU (s:={ s with heap:=h',toks:=s.toks + 1 }) e c d (by decide) ⟨.str (sgn x.cps[i]),H,I1,⟨_,rfl⟩,⟨rfl,_,by simp [hg'],rfl⟩,st',fun b hb=>(hf b hb).1⟩⟩
 done:=by
  intro X hP hw hK hc i pins s σ H E I hf st hg
  subst hP hw hK
  obtain⟨f0,f1,f2,f3,f4,f5⟩:=hf it (by simp)
  have hg':x.cps.size≤i:=hg
  exact wpAny_pyNext_ascii_end (I.ok.hd hc) st (by simpa using hg') fun h' eb=>⟨rfl,I.turned (t':=s.toks) (fun b o hb e=>eb b o hb e) f0 f1 f3 f4 f5⟩
 self:=fun _ _ _ _ _ st h=>wpAny_pyIter_striter_ascii st h
section
variable {X:Cx} {tg:Expr}
def KA (tl:TE):TI:=fun σ H R=>tl σ H fun x H1=>∃ z,x=.str z∧z.cps.all (· < 128)=true∧R (Its z) H1
theorem Ik {l:Expr} {tl:TE} (hl:PE X l tl):PI X tg l (KA tl):=by
 intro pins s σ H R I h
 refine thn (hl pins s σ H _ I h) fun v s1 ⟨x,H1,I1,r1,q1⟩=>?_
 obtain⟨z,rfl,ha,q⟩:=q1
 obtain⟨t,rfl⟩:=r1
 refine wpAny_pyIter_ascii ha ?_
 refine⟨s1.heap.objs.size,[s1.heap.objs.size],_,_,H1,rfl,I1.kept (t':=s1.toks) fun b o e=>Heap.get?_push_of_some _ e,Ct _ z t,⟨_,Heap.get?_push_size _ rfl,rfl,rfl⟩,fun b hb=>?_,q⟩
 obtain rfl:b=s1.heap.objs.size:=by simpa using hb
 exact I1.p8 (Nat.le_refl _) (I1.hok.fresh (Nat.le_refl _))
theorem G8 (i j:Int):Builtin.Range.rangeSize i j (-1)=((i - j).toNat:Int):=by
 unfold Builtin.Range.rangeSize
 rw[if_neg (by decide),Int.neg_neg,Int.ediv_one]
 split <;> omega
def Hj (ta:TA):TI:=fun σ H R=>ta σ H fun vs H1=>∃ i j:Int,vs=[.int i,.int j,.int (-1)]∧(-1000000≤i∧i≤1000000∧-1000000≤j∧j≤1000000)∧R (EV i (-1) (i - j).toNat) H1
theorem Bx {a b c:Expr} {ta:TA} {p pos:Pos} (hg:Gl X "range") (hm:X.mg "range"=none) (ha:PA X [a,b,c] ta) (hs:starEach [a,b,c] X.env=(false,eval a X.env)::starEach [b,c] X.env:=by rfl) (hs2:(backTo pos (starEach [b,c] X.env)).any (·.1)=false:=by rfl) :
  PI X tg (.Call (.Name "range" p) [a,b,c] [] pos) (Hj ta):=by
 intro pins s σ H R I h
 refine Call_ (g_ I hg hm boot_range (PyProof.Rows.callWith_type1 (thn (ha pos pins s σ H _ I h) fun us s1 ⟨vs,H1,I1,r1,q1⟩=>?_) hs hs2))
 obtain⟨i,j,e,⟨q1,q2,q3,q4⟩,q⟩:=q1
 subst e
 obtain⟨t,t',t'',rfl⟩:∃ t t' t'',us=[.int i t,.int j t',.int (-1) t'']:=by
  cases r1 with
  | cons x1 r1=>cases r1 with
   | cons x2 r1=>cases r1 with
    | cons x3 r1=>
     cases r1
     obtain⟨t,rfl⟩:=x1
     obtain⟨t',rfl⟩:=x2
     obtain⟨t'',rfl⟩:=x3
     exact⟨_,_,_,rfl⟩
 refine call_range_3 (by decide) ?_ (.inl (PyProof.noPylong_small (by decide)))
 have hsm:Builtin.Range.small i j (-1)=true:=by
  unfold Builtin.Range.small
  rw[G8]
  simp only[Builtin.Range.rangeFitsLong,Bool.and_eq_true,Bool.or_eq_true,decide_eq_true_eq,beq_iff_eq,show ¬ ((-1:Int) > 0) by decide,if_false]
  omega
 refine wpAny_pyIter_range (IsRange.new ..) hsm ?_
 have I2:Inv X pins σ H1 { s1 with heap:=s1.heap.push { cls:=.type "range",data:=.fields #[.int i t,.int j t',.int (-1) t''] } }:=I1.kept (t':=s1.toks) fun b o e=>Heap.get?_push_of_some _ e
 refine⟨_,_,_,_,H1,rfl,I2.kept (t':=s1.toks) fun b o e=>Heap.get?_push_of_some _ e,qw _ i (-1) (i - j).toNat,?_,fun b hb=>?_,q⟩
 ·show IsRangeIter _ _ (i + ((0:Nat):Int) * (-1)) ((((i - j).toNat:Nat):Int) - ((0:Nat):Int)) (-1)
  rw[show i + ((0:Nat):Int) * (-1)=i by simp,show (((i - j).toNat:Nat):Int) - ((0:Nat):Int)=Builtin.Range.rangeSize i j (-1) by rw[G8];simp]
  exact Heap.get?_push_size _ rfl
 ·have eb:b=s1.heap.objs.size + 1:=by simpa using hb
  subst eb
  exact I2.p8 (by show s1.heap.objs.size + 1≥_;rw[Heap.size_push];exact Nat.le_refl _) (I2.hok.fresh (by rw[Heap.size_push];exact Nat.le_refl _))
end
end L2
namespace L2
open PySem PySem.Spec PyProof.Rows
section
variable {X:Cx} {tg:Expr}
def CV:R2:=fun x y H Q=>∃ z n,x=.str z∧y=.int n∧(n=0∨n=1)∧z.length≤sizeLine∧Q (.str (if n=0 then Str.empty else z)) H
theorem FW:OpR X (binaryOp .Mult) CV:=by
 intro pins s σ H x y v u Q I rx ry h
 obtain⟨z,n,rfl,rfl,hn,hz,q⟩:=h
 obtain⟨t,rfl⟩:=rx
 obtain⟨t',rfl⟩:=ry
 rcases hn with rfl | rfl
 ·refine PySem.P.mul_str_none (by decide) (by decide) ⟨.str Str.empty,H,I.tok _,⟨_,rfl⟩,by simpa using q⟩
 ·refine PySem.P.mul_str (by decide) (fun _ h=>absurd h (by simp)) (fun _ h=>absurd h (by simp)) ?_
  rw[if_neg (by decide),if_pos (by simp)]
  exact⟨.str z,H,I,⟨_,rfl⟩,by simpa using q⟩
def JY:V→Option Int→Option Int→Hp→VK→Prop:=fun x lo hi H Q=>∃ z,x=.str z∧z.length≤sizeLine∧Q (.str (Txt.slice z lo hi)) H
def tokOf:Value→Option (Int×Tok)
 | .int i t=>some (i,t)
 | _=>none
theorem HM:SlR X JY:=by
 intro pins s σ H x v vl vu lo hi sl Q I rx hs pl pu h
 obtain⟨z,rfl,hz,q⟩:=h
 obtain⟨t,rfl⟩:=rx
 refine⟨"str",_,F.slot_str_getitem.lookup,typeIs_str _ _ _,?_⟩
 cases pl with
 | none=>cases pu with
  | none=>exact wpAny_getItem_str_slice (l:=none) (u:=none) (st:=none) hs rfl (post_val_or_str ⟨Nat.le_trans (Txt.slice_le z _ _) hz,fun t' k=>⟨.str _,H,I.tok _,⟨_,rfl⟩,q⟩⟩)
  | int j tj=>exact wpAny_getItem_str_slice (l:=none) (u:=some (j,tj)) (st:=none) hs rfl (post_val_or_str ⟨Nat.le_trans (Txt.slice_le z _ _) hz,fun t' k=>⟨.str _,H,I.tok _,⟨_,rfl⟩,q⟩⟩)
 | int i ti=>cases pu with
  | none=>exact wpAny_getItem_str_slice (l:=some (i,ti)) (u:=none) (st:=none) hs rfl (post_val_or_str ⟨Nat.le_trans (Txt.slice_le z _ _) hz,fun t' k=>⟨.str _,H,I.tok _,⟨_,rfl⟩,q⟩⟩)
  | int j tj=>exact wpAny_getItem_str_slice (l:=some (i,ti)) (u:=some (j,tj)) (st:=none) hs rfl (post_val_or_str ⟨Nat.le_trans (Txt.slice_le z _ _) hz,fun t' k=>⟨.str _,H,I.tok _,⟨_,rfl⟩,q⟩⟩)
def CY:V→List V→Hp→VK→Prop:=fun x vs H Q=>∃ z y,x=.str z∧vs=[.str y]∧Q (.int (Builtin.Str.occurrences z y 0 z.length (z.length + 1)).length) H
theorem DE:MtR X "str.count" CY:=by
 intro pins s σ H x vs v us Q I rx rv h
 obtain⟨z,y,rfl,rfl,q⟩:=h
 obtain⟨t,rfl⟩:=rx
 obtain⟨u,rfl,ru⟩:=rv.one
 obtain⟨t',rfl⟩:=ru
 exact call_gives F.slot_str_count (typeIs_str _ _ _) F.entry_str_count (F.args_str_count_2 _ _) (gives_str_count z y t t') ⟨.int _,H,I.tok _,⟨_,rfl⟩,q⟩
def Aq:V→List V→Hp→VK→Prop:=fun x vs H Q=>∃ l xs k y,x=.ref l∧vs=[.int k,y]∧H l=some (.lst xs)∧0≤k∧k≤xs.length∧xs.length < sizeLine∧Q .non (upd H l (.lst (xs.take k.toNat++y::xs.drop k.toNat)))
theorem BK:MtM X "list.insert" Aq:=by
 intro pins s σ H x vs v us Q I rx rv h
 obtain⟨l,xs,k,y,rfl,rfl,hH,h0,h1,hz,q⟩:=h
 cases rx
 obtain⟨u,w',rfl,ru,rw'⟩:=vals2 rv
 obtain⟨t,rfl⟩:=ru
 obtain⟨z,its,n,r,hl,e⟩:=I.ui hH
 have hsz:=nY
 refine call_meets F.slot_list_insert ⟨_,e,rfl⟩ F.entry_list_insert (F.args_list_insert_3 _ _ _)
  (AutoSeq1.list_insert_list_int_val_1 l its.toArray n k t w' (by rw[fitsIndex_both (by omega) (by omega)];exact Bool.false_ne_true) (by rw[List.size_toArray];omega)) ⟨e,?_⟩
 refine⟨.non,_,I.zD (its':=its.take k.toNat++w'::its.drop k.toNat) hH e ?_ ((r.take k.toNat).append (.cons rw' (r.drop k.toNat))) ?_,rfl,q⟩
 ·have hk:(if k < 0 then (k + (its.toArray.size:Int)).toNat else min k.toNat its.toArray.size)=k.toNat:=by
   rw[if_neg (by omega),List.size_toArray];omega
  show (its.toArray.extract 0 (if k < 0 then (k + (its.toArray.size:Int)).toNat else min k.toNat its.toArray.size)).push w'++its.toArray.extract (if k < 0 then (k + (its.toArray.size:Int)).toNat else min k.toNat its.toArray.size)=_
  rw[hk]
  apply Array.toList_inj.mp
  simp
  rw[List.take_of_length_le (by rw[List.length_drop];omega)]
 ·rw[List.length_append,List.length_take,List.length_cons,List.length_drop];omega
structure TyS (K:PySem.W.Frag):Prop where
 bs:PySem.W.kitOne K (.type "bool") (.type "str")=some false
 is:PySem.W.kitOne K (.type "int") (.type "str")=some false
 ns:PySem.W.kitOne K (.type "NoneType") (.type "str")=some false
 ss:PySem.W.kitOne K (.type "str") (.type "str")=some true
 ls:PySem.W.kitOne K (.type "list") (.type "str")=some false
 ts:PySem.W.kitOne K (.type "tuple") (.type "str")=some false
 ds:PySem.W.kitOne K (.type "dict") (.type "str")=some false
def isS:V→Bool
 | .str _=>true
 | _=>false
theorem Ez (F:TyS X.K):eR X (.builtin "isinstance") (fun xs H Q=>∃ x,xs=[x,.ty "str"]∧Kn H x∧Q (.bl (isS x)) H):=by
 intro pins s σ H xs us Q I r h
 obtain⟨x,rfl,k,q⟩:=h
 cases k with
 | non=>exact az I r .non F.ns rfl q
 | bl b=>exact az I r (.bl b) F.bs rfl q
 | int i=>exact az I r (.int i) F.is rfl q
 | str y=>exact az I r (.str y) F.ss rfl q
 | lst e=>exact az I r (.lst e) F.ls rfl q
 | tup e=>exact az I r (.tup e) F.ts rfl q
 | dK e=>exact az I r (.dK e) F.ds rfl q
end
end L2
namespace L2
open PySem PySem.Spec PyProof.Rows
section
variable {prog:Program} {w:World} {A:Around} {E:Value→Shared→Prop} {s:Shared}
abbrev Al (n:Int):Obj:={ cls:=.type "range_iterator",data:=.fields #[rawInt (n - 1),rawInt n,rawInt (-1)] }
theorem JR {n:Int} (h:0≤n):Builtin.Range.rangeSize 0 n 1=n:=by
 unfold Builtin.Range.rangeSize
 rw[if_pos (by decide),Int.ediv_one]
 split <;> omega
theorem nq {r:Addr} {n:Int} {t u v:Tok} {Q:Value→Shared→Prop} (hr:IsRange s.heap r 0 n 1 t u v) (h0:0≤n) (h1:n < 2 ^ 62)
  (h:Q (.ref s.heap.objs.size) { s with heap:=s.heap.push (Al n) }):wpAny (model prog w) A (call (.builtin "range.__reversed__") [.ref r]) Q E s:=by
 have hT:s.TypeIs (.ref r) "range":=⟨_,hr,rfl⟩
 have e2:(Builtin.Range.rangeFitsLong 0 && Builtin.Range.rangeFitsLong n && Builtin.Range.rangeFitsLong 1 && Builtin.Range.rangeFitsLong (-1) && Builtin.Range.rangeFitsLong (0 - 1) && Builtin.Range.rangeFitsLong n)=true:=by
  simp only[Builtin.Range.rangeFitsLong,Bool.and_eq_true,decide_eq_true_eq]
  omega
 refine wpAny_call_entry F.slot_range_reversed hT F.entry_range_reversed ?_ (F.args_range_reversed_1 _)
 unfold Builtin.«range.__reversed__»
 refine wpAny_bind (wpAny_of_eq (a:=Value.ref r) rfl ?_)
 refine wpAny_bind ?_
 unfold Builtin.Range.rangeFields
 refine wpAny_bind (wpAny_field hr rfl (x:=.int 0 t) rfl ?_)
 refine wpAny_bind (wpAny_of_eq (a:=some (0:Int)) rfl ?_)
 refine wpAny_bind (wpAny_field hr rfl (x:=.int n u) rfl ?_)
 refine wpAny_bind (wpAny_of_eq (a:=some n) rfl ?_)
 refine wpAny_bind (wpAny_field hr rfl (x:=.int 1 v) rfl ?_)
 refine wpAny_bind (wpAny_of_eq (a:=some (1:Int)) rfl ?_)
 refine wpAny_pure ?_
 dsimp only
 rw[JR h0,e2]
 simp only[Bool.not_true,Bool.false_eq_true,if_false,if_true]
 have e3:(0:Int) + (n - 1) * 1=n - 1:=by omega
 rw[e3]
 first
 | exact wpAny_bind (wpAny_newObj_type (wpAny_pure ⟨_,rfl,h⟩))
 | exact wpAny_bind (wpAny_pure (wpAny_bind (wpAny_newObj_type (wpAny_pure ⟨_,rfl,h⟩))))
theorem qW:isSubtype (.type "range_iterator") (.type "reversed")=pure false:=by rw[isSubtype_type];kernel_rfl
theorem nc {r:Addr} {n:Int} {t u v:Tok} {Q₁:Value→Shared→Prop} (hr:IsRange s.heap r 0 n 1 t u v) (h0:0≤n) (h1:n < 2 ^ 62)
  (h:Q₁ (.ref s.heap.objs.size) { s with heap:=s.heap.push (Al n) }) :
  codeAny (model prog w) A (.call (.builtin "reversed.__new__") ⟨[.type "reversed",.ref r],[]⟩) (wants Q₁ E) s:=by
 have hT:s.TypeIs (.ref r) "range":=⟨_,hr,rfl⟩
 refine codeAny_of_tree ?_
 show wpAny _ A.in1 (checkBuiltinCall "reversed.__new__" ⟨[.type "reversed",.ref r],[]⟩ >>= fun _=>again (.builtin "reversed.__new__" ⟨[.type "reversed",.ref r],[]⟩)) _ _ s
 refine wpAny_bind (wpAny_of_eq (F.newCall_reversed_1 _) (wpAny_pure ⟨plainId_quiet F.plain_reversed_new _,codeAny_builtin F.entry_reversed_new ?_⟩))
 rw[Around.under_plainId F.plain_reversed_new _]
 unfold Builtin.«reversed.__new__»
 refine wpAny_bind (wpAny_of_eq (newClass_reversed _) ?_)
 try dsimp only
 refine wpAny_bind (wpAny_of_eq (a:=()) (by first | rfl | kernel_rfl) ?_)
 refine wpAny_bind (wpAny_of_eq (a:=()) (by first | rfl | kernel_rfl) ?_)
 try dsimp only
 refine wpAny_bind (wpAny_specialOf hT F.slot_range_reversed.lookup ?_)
 try dsimp only
 refine wpAny_bind (wpAny_of_eq (F.slot_range_reversed.bind _) ?_)
 try dsimp only
 have ng:¬ ((Value.builtin "range.__reversed__" == Value.none)=true):=Bool.false_ne_true
 first
 | rw[if_neg ng]
 | (show wpAny _ _ (if (Value.builtin "range.__reversed__" == Value.none)=true then _ else _) _ _ _;rw[if_neg ng])
 refine wpAny_bind (wpAny_rule ?_)
 refine wpAny_bind (m:=runValue (.call (.builtin "range.__reversed__") ⟨[.ref r],[]⟩)) (show wpAny _ _ (call (.builtin "range.__reversed__") [.ref r]) _ _ _ from nq hr h0 h1 ?_)
 first
 | exact wpAny_pure h
 | exact wpAny_bind (wpAny_pure (wpAny_pure h))
theorem nk {r:Addr} {n:Int} {t u v:Tok} {Q:Value→Shared→Prop} (hr:IsRange s.heap r 0 n 1 t u v) (h0:0≤n) (h1:n < 2 ^ 62)
  (h:Q (.ref s.heap.objs.size) { s with heap:=s.heap.push (Al n) }):wpAny (model prog w) A (call (.type "reversed") [.ref r]) Q E s:=by
 refine callType_other (U:="range_iterator") (Q₁:=fun obj s₁=>obj=.ref s.heap.objs.size∧s₁={ s with heap:=s.heap.push (Al n) }) (by decide +kernel) F.create_reversed ⟨_,_,F.mro_reversed⟩ F.made_reversed qW (F.typeCall_reversed_1 _) (nc hr h0 h1 ⟨rfl,rfl⟩) ?_
 rintro obj s₁ ⟨rfl,rfl⟩
 exact⟨⟨_,Heap.get?_push_size _ rfl,rfl⟩,h⟩
end
section
variable {X:Cx} {tg:Expr}
def KC (ta:TA):TI:=fun σ H R=>ta σ H fun vs H1=>∃ j:Int,vs=[.int j]∧0≤j∧j < 2 ^ 62∧R (EV (j - 1) (-1) j.toNat) H1
theorem Il {a:Expr} {ta:TA} {p p' pos pos':Pos} (hg':Gl X "reversed") (hm':X.mg "reversed"=none) (hg:Gl X "range") (hm:X.mg "range"=none) (ha:PA X [a] ta) (hs:starEach [a] X.env=[(false,eval a X.env)]:=by rfl)
  (hs':starEach [.Call (.Name "range" p) [a] [] pos] X.env=[(false,eval (.Call (.Name "range" p) [a] [] pos) X.env)]:=by rfl) :
  PI X tg (.Call (.Name "reversed" p') [.Call (.Name "range" p) [a] [] pos] [] pos') (KC ta):=by
 intro pins s σ H R I h
 refine Call_ (g_ I hg' hm' (by decide +kernel:bootBuiltins "reversed"=some (.type "reversed")) (PyProof.Rows.callWith_type1 ?_ hs' rfl))
 rw[hs']
 have hsp:∀ (q:Sem Value) (Q:List Value→Shared→Prop) (s:Shared),wpAny (model X.prog X.w) X.A q (fun v s'=>Q [v] s') X.xe s→wpAny (model X.prog X.w) X.A (spliced (backTo pos' [(false,q)])) Q X.xe s:=fun q Q s hq=>by
  show wpAny _ _ (spliced ((false,q)::backTo pos' [])) _ _ s
  exact Calls.spliced_cons (thn hq fun v s' z=>Calls.spliced_nil z)
 refine hsp _ _ _ ?_
 refine Call_ (g_ I hg hm boot_range (PyProof.Rows.callWith_type1 (thn (ha pos pins s σ H _ I h) fun us s1 ⟨vs,H1,I1,r1,q1⟩=>?_) hs rfl))
 obtain⟨j,e,q0,q2,q⟩:=q1
 subst e
 obtain⟨u,rfl,ru⟩:=vals1 r1
 obtain⟨t,rfl⟩:=ru
 refine call_range_1 ?_
 have I2:Inv X pins σ H1 { s1 with heap:=s1.heap.push { cls:=.type "range",data:=.fields #[.int 0 s1.toks,.int j t,.int 1 (s1.toks + 1)] },toks:=s1.toks + 1 + 1 }:=I1.kept fun b o e=>Heap.get?_push_of_some _ e
 refine nk (IsRange.new ..) q0 q2 ?_
 refine wpAny_pyIter_rangeiter (x:=j - 1) (left:=j) (step:=-1) (Heap.get?_push_size _ rfl) ?_
 refine⟨_,_,_,_,H1,rfl,I2.kept (t':=s1.toks + 1 + 1) fun b o e=>Heap.get?_push_of_some _ e,qw _ (j - 1) (-1) j.toNat,?_,fun b hb=>?_,q⟩
 ·show IsRangeIter _ _ (j - 1 + ((0:Nat):Int) * (-1)) (((j.toNat:Nat):Int) - ((0:Nat):Int)) (-1)
  rw[show j - 1 + ((0:Nat):Int) * (-1)=j - 1 by simp,show ((j.toNat:Nat):Int) - ((0:Nat):Int)=j by simp;omega]
  exact Heap.get?_push_size _ rfl
 ·have eb:b=s1.heap.objs.size + 1:=by simpa using hb
  have hge:(s1.heap.push { cls:=.type "range",data:=.fields #[.int 0 s1.toks,.int j t,.int 1 (s1.toks + 1)] }).objs.size≤b:=by rw[Heap.size_push,eb];exact Nat.le_refl _
  exact I2.p8 hge (I2.hok.fresh hge)
end
end L2
namespace L2
open PySem PySem.Spec PyProof.Rows
section
variable {prog:Program} {w:World} {A:Around} {E:Value→Shared→Prop} {s:Shared}
theorem E7 {it p:Addr} {i:Nat} {items:Array Value} {x:Value} {Q:Value→Shared→Prop} (hit:s.heap.IsTupleIter it p i) (ht:s.heap.IsTuple p items) (hx:items[i]?=some x)
  (hQ:∀ h',h'.IsTupleIter it p (i + 1)→Heap.SameBut it s.heap h'→Q x { s with heap:=h' }):wpAny (model prog w) A (Builtin.SmallTypes.nextOf (.ref it)) Q E s:=by
 obtain⟨ob,hob,hcl,hda⟩:=id hit
 obtain⟨op,hop,_,np,hdp⟩:=ht
 unfold Builtin.SmallTypes.nextOf
 refine wpAny_bind (wpAny_callSpecial?_slot (name:=Str.ofString "__next__") hit.typeIs F.slot_tuple_iterator_next (wpAny_call_entry F.slot_tuple_iterator_next hit.typeIs F.entry_tuple_iterator_next ?_ (F.args_tuple_iterator_next_1 _)))
 show wpAny _ _ (field (.ref it) 0 >>= fun a=>_) _ _ s
 refine wpAny_bind (wpAny_field hob hda (x:=.ref p) rfl ?_)
 show wpAny _ _ (if (Value.ref p == Value.none)=true then _ else _) _ _ s
 rw[if_neg (show ¬ ((Value.ref p == Value.none)=true) from Bool.false_ne_true)]
 show wpAny _ _ (field (.ref it) 1 >>= fun a=>_) _ _ s
 refine wpAny_bind (wpAny_field hob hda (x:=.int i 0) rfl ?_)
 show wpAny _ _ (seqItems? (.ref p) >>= fun a=>_) _ _ s
 refine wpAny_bind (wpAny_seqItems hop hdp ?_)
 simp only[Int.toNat_natCast,hx]
 refine wpAny_bind (wpAny_setField hob hda (by simp) (wpAny_pure ⟨x,rfl,?_⟩))
 first
 | refine wpAny_pure (hQ _ ?_ (Heap.SameBut.update ..))
 | refine hQ _ ?_ (Heap.SameBut.update ..)
 exact⟨_,Heap.get?_update_self _ hob (Obj.isFreed_of_fields (Obj.data_mapFields hda _)),(Obj.cls_mapFields ..).trans hcl,by rw[Obj.data_mapFields hda];simp [rawInt]⟩
structure ZsD (z TI TO i1 i2 p:Addr):Prop extends pC z TI TO i1 i2 where
 pz:p≠z
 pTO:p≠TO
 pi1:p≠i1
 pi2:p≠i2
theorem EY {z TI TO i1 i2 p:Addr} {k:Nat} {xs:Str} {tk0:Tok} {ys:Array Value} {c:Nat} {y a b:Value} {Q:Value→Shared→Prop} (D:ZsD z TI TO i1 i2 p) (hz:IsZip s.heap z TI TO .none) (hTI:IsPair s.heap TI (.ref i1) (.ref i2)) (hTO:IsPair s.heap TO a b)
  (h1:s.heap.IsStrIter i1 "str_ascii_iterator" xs tk0 k) (h2:s.heap.IsTupleIter i2 p k) (hp:s.heap.IsTuple p ys) (hx:xs.cps[k]?=some c) (hy:ys[k]?=some y)
  (hQ:∀ h' u,IsZip h' z TI TO (rawInt s.heap.objs.size)→IsPair h' TO (.str ⟨#[c]⟩ u) y→h'.IsStrIter i1 "str_ascii_iterator" xs tk0 (k + 1)→h'.IsTupleIter i2 p (k + 1)→IsPair h' s.heap.objs.size (.str ⟨#[c]⟩ u) y→
   (∀ d o,d≠z→d≠TO→d≠i1→d≠i2→s.heap.get? d=some o→h'.get? d=some o)→Q (.ref s.heap.objs.size) { s with heap:=h',toks:=s.toks + 1 }) :
  wpAny (model prog w) A (Builtin.«zip.__next__» ⟨[.ref z],[]⟩) (fun fin s'=>∃ v,fin=.done (.ret v)∧Q v s') E s:=by
 show wpAny _ _ (field (.ref z) 2 >>= fun a=>_) _ _ _
 refine wpAny_bind (wpAny_field hz rfl (x:=.bool false) rfl ?_)
 show wpAny _ _ (field (.ref z) 3 >>= fun a=>_) _ _ _
 refine wpAny_bind (wpAny_field hz rfl (x:=.ref TI) rfl (wpAny_bind (wpAny_seqItems hTI rfl ?_)))
 show wpAny _ _ (Builtin.SmallTypes.ownedTupleIsFree (.ref z) >>= fun a=>_) _ _ _
 refine wpAny_bind ?_
 unfold Builtin.SmallTypes.ownedTupleIsFree
 refine wpAny_bind (wpAny_field hz rfl (x:=.none) rfl (wpAny_pure ?_))
 simp only[if_true]
 refine wpAny_bind (wpAny_rule (wpAny_bind (wpAny_field hz rfl (x:=.ref TO) rfl ?_)))
 refine wpAny_bind (wpAny_setField_rec hz (by simp) fun g1 hz1 sb1=>?_)
 replace hz1:IsZip g1 z TI TO .ellipsis:=hz1
 refine wpAny_bind ?_
 simp only[List.zipIdx_cons,List.zipIdx_nil,List.forIn_cons,List.forIn_nil]
 refine wpAny_bind (wpAny_bind (wpAny_onRaise ?_))
 show wpAny _ _ (Builtin.SmallTypes.nextOf (.ref i1) >>= fun a=>_) _ _ _
 refine wpAny_bind (wpAny_nextOf_ascii_item (h1.extBut sb1.extBut D.i1z) hx fun g2 h12 sb2=>wpAny_pure ?_)
 have hTO2:IsPair g2 TO a b:=sb2.extBut _ _ D.TOi1 (sb1.extBut _ _ D.TOz hTO)
 refine wpAny_bind (wpAny_seqItems hTO2 rfl (wpAny_bind (wpAny_updateSeq_pair hTO2 fun g3 hTO3 sb3=>?_)))
 replace hTO3:IsPair g3 TO (.str ⟨#[c]⟩ s.toks) b:=hTO3
 refine wpAny_bind (wpAny_letGo (wpAny_pure (wpAny_bind (wpAny_bind (wpAny_onRaise ?_)))))
 show wpAny _ _ (Builtin.SmallTypes.nextOf (.ref i2) >>= fun a=>_) _ _ _
 have h23:g3.IsTupleIter i2 p k:=h2.at fun o e=>sb3.extBut _ _ D.TOi2.symm (sb2.extBut _ _ D.i12.symm (sb1.extBut _ _ D.i2z e))
 have hp3:g3.IsTuple p ys:=((hp.extBut sb1.extBut D.pz).extBut sb2.extBut D.pi1).extBut sb3.extBut D.pTO
 refine wpAny_bind (E7 h23 hp3 hy fun g4 h24 sb4=>wpAny_pure ?_)
 have hTO4:IsPair g4 TO (.str ⟨#[c]⟩ s.toks) b:=sb4.extBut _ _ D.TOi2 hTO3
 refine wpAny_bind (wpAny_seqItems hTO4 rfl (wpAny_bind (wpAny_updateSeq_pair hTO4 fun g5 hTO5 sb5=>?_)))
 replace hTO5:IsPair g5 TO (.str ⟨#[c]⟩ s.toks) y:=hTO5
 refine wpAny_bind (wpAny_letGo (wpAny_pure (wpAny_pure (wpAny_bind (wpAny_seqItems hTO5 rfl (wpAny_bind (wpAny_newTuple ?_)))))))
 have hsz:g5.objs.size=s.heap.objs.size:=by rw[sb5.1,sb4.1,sb3.1,sb2.1,sb1.1]
 have hz5:IsZip g5 z TI TO .ellipsis:=sb5.extBut _ _ D.TOz.symm (sb4.extBut _ _ D.i2z.symm (sb3.extBut _ _ D.TOz.symm (sb2.extBut _ _ D.i1z.symm hz1)))
 have hk5:∀ d o,d≠z→d≠TO→d≠i1→d≠i2→s.heap.get? d=some o→g5.get? d=some o:=fun d o c1 c2 c3 c4 e=>sb5.extBut _ _ c2 (sb4.extBut _ _ c4 (sb3.extBut _ _ c2 (sb2.extBut _ _ c3 (sb1.extBut _ _ c1 e))))
 have h15:g5.IsStrIter i1 "str_ascii_iterator" xs tk0 (k + 1):=((h12.extBut sb3.extBut D.TOi1.symm).extBut sb4.extBut D.i12).extBut sb5.extBut D.TOi1.symm
 have h25:g5.IsTupleIter i2 p (k + 1):=h24.at fun o e=>sb5.extBut _ _ D.TOi2.symm e
 have zlt:z < g5.objs.size:=Heap.lt_size hz5
 show wpAny _ _ (Builtin.SmallTypes.ownedTupleHandOut (.ref z) (.ref g5.objs.size) >>= fun a=>_) _ _ _
 refine wpAny_bind ?_
 unfold Builtin.SmallTypes.ownedTupleHandOut
 have hz6:IsZip (g5.push { cls:=.type "tuple",data:=.seq #[.str ⟨#[c]⟩ s.toks,y] }) z TI TO .ellipsis:=Heap.get?_push_of_some _ hz5
 refine wpAny_bind (wpAny_setField_rec hz6 (by simp) fun g7 hz7 sb7=>?_)
 replace hz7:IsZip g7 z TI TO (rawInt g5.objs.size):=hz7
 refine wpAny_setField_rec hz7 (by simp) fun g8 hz8 sb8=>?_
 replace hz8:IsZip g8 z TI TO (rawInt g5.objs.size):=hz8
 have up:∀ d o,d≠z→g5.get? d=some o→g8.get? d=some o:=fun d o c1 e=>sb8.extBut _ _ c1 (sb7.extBut _ _ c1 (Heap.get?_push_of_some _ e))
 have hT8:IsPair g8 g5.objs.size (.str ⟨#[c]⟩ s.toks) y:=sb8.extBut _ _ (Nat.ne_of_gt zlt) (sb7.extBut _ _ (Nat.ne_of_gt zlt) (Heap.get?_push_size _ rfl))
 rw[hsz] at hz8 hT8
 refine wpAny_pure ⟨_,rfl,?_⟩
 show Q (.ref g5.objs.size) _
 rw[hsz]
 exact hQ g8 _ hz8 (up _ _ D.TOz hTO5) (let ⟨o,e,r⟩:=h15;⟨o,up _ o D.i1z e,r⟩) (h25.at fun o e=>up _ o D.i2z e) hT8 fun d o c1 c2 c3 c4 e=>up d o c1 (hk5 d o c1 c2 c3 c4 e)
theorem HD {z TI TO i1 i2 p:Addr} {k:Nat} {xs:Str} {tk0:Tok} {a b:Value} {Q:Fin→Shared→Prop} (hh:A.handled=none) (D:ZsD z TI TO i1 i2 p) (hz:IsZip s.heap z TI TO .none) (hTI:IsPair s.heap TI (.ref i1) (.ref i2)) (hTO:IsPair s.heap TO a b)
  (h1:s.heap.IsStrIter i1 "str_ascii_iterator" xs tk0 k) (hx:xs.cps[k]?=none)
  (hE:∀ h' e,(∀ d o,d≠z→d≠TO→d≠i1→d≠i2→s.heap.get? d=some o→h'.get? d=some o)→(∃ o,h'.get? e=some o∧o.cls=.type "StopIteration")→E (.ref e) { s with heap:=h' }) :
  wpAny (model prog w) A (Builtin.«zip.__next__» ⟨[.ref z],[]⟩) Q E s:=by
 show wpAny _ _ (field (.ref z) 2 >>= fun a=>_) _ _ _
 refine wpAny_bind (wpAny_field hz rfl (x:=.bool false) rfl ?_)
 show wpAny _ _ (field (.ref z) 3 >>= fun a=>_) _ _ _
 refine wpAny_bind (wpAny_field hz rfl (x:=.ref TI) rfl (wpAny_bind (wpAny_seqItems hTI rfl ?_)))
 show wpAny _ _ (Builtin.SmallTypes.ownedTupleIsFree (.ref z) >>= fun a=>_) _ _ _
 refine wpAny_bind ?_
 unfold Builtin.SmallTypes.ownedTupleIsFree
 refine wpAny_bind (wpAny_field hz rfl (x:=.none) rfl (wpAny_pure ?_))
 simp only[if_true]
 refine wpAny_bind (wpAny_rule (wpAny_bind (wpAny_field hz rfl (x:=.ref TO) rfl ?_)))
 refine wpAny_bind (wpAny_setField_rec hz (by simp) fun g1 hz1 sb1=>?_)
 replace hz1:IsZip g1 z TI TO .ellipsis:=hz1
 refine wpAny_bind ?_
 simp only[List.zipIdx_cons,List.zipIdx_nil,List.forIn_cons,List.forIn_nil]
 refine wpAny_bind (wpAny_bind (wpAny_onRaise ?_))
 show wpAny _ _ (Builtin.SmallTypes.nextOf (.ref i1) >>= fun a=>_) _ _ _
 refine wpAny_bind (wpAny_nextOf_ascii_end hh (h1.extBut sb1.extBut D.i1z) hx fun g2 e sb2 he=>?_)
 obtain⟨oe,hoe,hce⟩:=he
 have hz2:IsZip g2 z TI TO .ellipsis:=sb2 _ _ D.i1z.symm hz1
 have hez:e≠z:=fun q=>by subst q;rw[hz2] at hoe;cases hoe;simp at hce
 exact wpAny_setField_rec hz2 (by simp) fun g3 _ sb3=>hE g3 e (fun d o c1 _ c3 _ q=>sb3.extBut _ _ c1 (sb2 _ _ c3 (sb1.extBut _ _ c1 q))) ⟨oe,sb3.extBut _ _ hez hoe,hce⟩
end
end L2
namespace L2
open PySem PySem.Spec PyProof.Rows
def Ld (K:PySem.W.Frag) (x:Str) (p:Addr):It:=
 ⟨fun i H=>∃ ys y,SqT K H p ys∧i < x.cps.size∧ys[i]?=some y,
  fun i H v H'=>∃ t y c,H t=none∧(∀ ys,SqT K H p ys→ys[i]?=some y)∧x.cps[i]?=some c∧v=.ref t∧H'=upd H t (.tup [.str (sgn c),y]),
  fun i _=>x.cps.size≤i⟩
def LH (z TI TO i1 i2:Addr) (x:Str) (tk:Tok) (p:Addr) (i:Nat) (h:Heap):Prop:=IsZip h z TI TO .none∧IsPair h TI (.ref i1) (.ref i2)∧(∃ a b,IsPair h TO a b)∧h.IsStrIter i1 "str_ascii_iterator" x tk i∧h.IsTupleIter i2 p i
section
variable {X:Cx} {pins:List (Addr×Obj)} {σ:St} {H:Hp} {s:Shared}
end
theorem E6 {P:Program} {w:World} {K:PySem.W.Frag} {es:List Expr} {kt:Nat} {tp:Pos} (z TI TO i1 i2 p:Addr) (x:Str) (tk:Tok) (D:ZsD z TI TO i1 i2 p) :
  Turn P w K (.Tuple es kt tp) (Ld K x p) [z,TI,TO,i1,i2] z (LH z TI TO i1 i2 x tk p) where
 mem:=by simp
 obj:=fun i h st b hb=>by
  obtain⟨hz,hTI,⟨a,c,hTO⟩,⟨o1,e1,_,d1⟩,⟨o2,e2,_,d2⟩⟩:=st
  simp only[List.mem_cons,List.not_mem_nil,or_false] at hb
  rcases hb with rfl | rfl | rfl | rfl | rfl
  ·exact⟨_,hz,fun v q=>by cases q⟩
  ·exact⟨_,hTI,fun v q=>by cases q⟩
  ·exact⟨_,hTO,fun v q=>by cases q⟩
  ·exact⟨_,e1,fun v q=>by rw[d1] at q;cases q⟩
  ·exact⟨_,e2,fun v q=>by rw[d2] at q;cases q⟩
 keep:=fun i h h' st k=>by
  obtain⟨hz,hTI,⟨a,c,hTO⟩,⟨o1,e1,r1⟩,h2⟩:=st
  exact⟨k z (by simp) _ hz,k TI (by simp) _ hTI,⟨a,c,k TO (by simp) _ hTO⟩,⟨o1,k i1 (by simp) _ e1,r1⟩,h2.at fun o e=>k i2 (by simp) o e⟩
 item:=by
  intro X hP hw hK hc i pins s σ H E I hf st hg
  subst hP hw hK
  obtain⟨ys,y,hq,hx,hy⟩:=hg
  obtain⟨hz,hTI,⟨a0,b0,hTO⟩,h1,h2⟩:=st
  obtain⟨its,r,ht,hsz⟩:=I.tuple hq
  obtain⟨v,hv,rv⟩:=r.get hy
  have nf:∀ b∈[z,TI,TO,i1,i2],H b=none:=fun b hb=>(hf b hb).1
  have hT:s.TypeIs (.ref z) "zip":=⟨_,hz,rfl⟩
  unfold pyNext
  refine wpAny_bind (wpAny_attempt (wpAny_callSpecial?_slot (name:=Str.ofString "__next__") hT F.slot_zip_next (wpAny_call_entry F.slot_zip_next hT F.entry_zip_next
   (EY D hz hTI hTO h1 h2 (show s.heap.IsTuple p its.toArray from ht) (c:=x.cps[i]) (by simp [hx]) (y:=v) (by simpa using hv) fun h' u a1 a2 a3 a4 a5 hk=>wpAny_pure ?_) (F.args_zip_next_1 _))))
  refine⟨_,rfl,wpAny_letOwnedTupleGo_zip a1 fun h2' hz' hs'=>?_⟩
  have zT:s.heap.objs.size≠z:=Nat.ne_of_gt (Heap.lt_size hz)
  refine⟨.ref s.heap.objs.size,upd H s.heap.objs.size (.tup [.str (sgn x.cps[i]),y]),?_,rfl,⟨_,y,x.cps[i],I.hok.fresh (Nat.le_refl _),fun zs hzs=>by rw[I.Bi hzs hq];exact hy,by simp [hx],rfl,rfl⟩,?_,fun b hb'=>?_⟩
  ·refine I.vW (t':=s.toks + 1) (ch:=[z,TO,i1,i2]) (u:=.str (sgn x.cps[i]) u) (v:=v) (fun b hb'=>hf b (by simp at hb' ⊢;rcases hb' with e | e | e | e <;> simp [e])) (Nat.le_refl _) (fun b o hb' e=>?_) ⟨_,hs'.extBut _ _ zT a5,rfl,_,rfl⟩ ⟨_,rfl⟩ rv
   simp only[List.mem_cons,List.not_mem_nil,or_false,not_or] at hb'
   exact hs'.extBut b o hb'.1 (hk b o hb'.1 hb'.2.1 hb'.2.2.1 hb'.2.2.2 e)
  ·exact⟨hz',hs'.extBut _ _ D.TIz (hk _ _ D.TIz D.TITO D.TIi1 D.TIi2 hTI),⟨_,_,hs'.extBut _ _ D.TOz a2⟩,a3.extBut hs'.extBut D.i1z,a4.at fun o e=>hs'.extBut _ _ D.i2z e⟩
  ·rw[au]
   ·exact nf b hb'
   ·have hlt:∃ o,s.heap.get? b=some o:=by
     obtain⟨o1,e1,_⟩:=h1
     obtain⟨o2,e2,_⟩:=h2
     simp only[List.mem_cons,List.not_mem_nil,or_false] at hb'
     rcases hb' with rfl | rfl | rfl | rfl | rfl
     ·exact⟨_,hz⟩
     ·exact⟨_,hTI⟩
     ·exact⟨_,hTO⟩
     ·exact⟨_,e1⟩
     ·exact⟨_,e2⟩
    obtain⟨o,e⟩:=hlt
    exact Nat.ne_of_lt (Heap.lt_size e)
 done:=by
  intro X hP hw hK hc i pins s σ H E I hf st hg
  subst hP hw hK
  obtain⟨hz,hTI,⟨a0,b0,hTO⟩,h1,h2⟩:=st
  have hg':x.cps.size≤i:=hg
  have hT:s.TypeIs (.ref z) "zip":=⟨_,hz,rfl⟩
  unfold pyNext
  refine wpAny_bind (wpAny_attempt (wpAny_callSpecial?_slot (name:=Str.ofString "__next__") hT F.slot_zip_next (wpAny_call_entry F.slot_zip_next hT F.entry_zip_next
   (HD (I.ok.hd hc) D hz hTI hTO h1 (by simpa using hg') fun h' e hk he=>?_) (F.args_zip_next_1 _))))
  obtain⟨o,ho,hcl⟩:=he
  refine wpAny_bind (wpAny_isInstance (T:="StopIteration") (b:=true) ⟨o,ho,hcl⟩ isSubtype_stop ?_)
  refine wpAny_pure ⟨rfl,I.moved (t':=s.toks) (ch:=[z,TO,i1,i2]) (fun b hb'=>hf b (by simp at hb' ⊢;rcases hb' with e | e | e | e <;> simp [e])) fun b o hb' e=>?_⟩
  simp only[List.mem_cons,List.not_mem_nil,or_false,not_or] at hb'
  exact hk b o hb'.1 hb'.2.1 hb'.2.2.1 hb'.2.2.2 e
 self:=fun _ _ _ _ _ st h=>wpAny_pyIter_zip st.1 h
abbrev zs1 (h:Heap) (x:Str) (t:Tok):Heap:=h.push { cls:=.type "str_ascii_iterator",data:=.fields #[.str x t,.int 0 0] }
abbrev zs2 (h:Heap) (x:Str) (t:Tok) (p:Addr):Heap:=(zs1 h x t).push { cls:=.type "tuple_iterator",data:=.fields #[.ref p,.int 0 0] }
abbrev zs3 (h:Heap) (x:Str) (t:Tok) (p:Addr):Heap:=(zs2 h x t p).push { cls:=.type "tuple",data:=.seq #[.ref h.objs.size,.ref (zs1 h x t).objs.size] }
abbrev zs4 (h:Heap) (x:Str) (t:Tok) (p:Addr):Heap:=(zs3 h x t p).push { cls:=.type "tuple",data:=.seq #[.none,.none] }
abbrev zs5 (h:Heap) (x:Str) (t:Tok) (p:Addr):Heap:=(zs4 h x t p).push { cls:=.type "zip",data:=.fields #[.none,.bool false,.bool false,.ref (zs2 h x t p).objs.size,.ref (zs3 h x t p).objs.size] }
set_option maxHeartbeats 4000000 in
theorem DH (x:Str) (t:Tok) (p:Addr) (ys:Array Value) (ha:x.cps.all (· < 128)=true) :
  Meets (Builtin.«zip.__new__» ⟨[.type "zip",.str x t,.ref p],[]⟩) (fun _ R s=>s.heap.IsTuple p ys∧R (.ok (.ret (.ref (zs4 s.heap x t p).objs.size))) { s with heap:=zs5 s.heap x t p }):=
 .of_wp fun prog w A R s h=>by
  obtain⟨hp,g,d,tk,os⟩:=s;obtain⟨hl,h⟩:=h
  have hsub:=sub_zip
  have hL:Heap.IsTuple (Shared.heap ⟨hp.push { cls:=.type "str_ascii_iterator",data:=.fields #[.str x t,.int 0 0] },g,d,tk,os⟩) p ys:=let ⟨o,e,r⟩:=hl;⟨o,Heap.get?_push_of_some _ e,r⟩
  wp_walk using wpAny_pyIter_ascii ha,wpAny_pyIter_tuple hL
  exact⟨_,rfl,h⟩
end L2
namespace L2
open PySem PySem.Spec PyProof.Rows
section
variable {prog:Program} {w:World} {A:Around} {E:Value→Shared→Prop} {s:Shared}
theorem GD {x:Str} {t:Tok} {p:Addr} {ys:Array Value} {Q:Value→Shared→Prop} (ha:x.cps.all (· < 128)=true) (hp:s.heap.IsTuple p ys)
  (h:∀ h',IsZip h' (s.heap.objs.size + 4) (s.heap.objs.size + 2) (s.heap.objs.size + 3) .none→IsPair h' (s.heap.objs.size + 2) (.ref s.heap.objs.size) (.ref (s.heap.objs.size + 1))→IsPair h' (s.heap.objs.size + 3) .none .none→
   h'.IsStrIter s.heap.objs.size "str_ascii_iterator" x t 0→h'.IsTupleIter (s.heap.objs.size + 1) p 0→(∀ c o,s.heap.get? c=some o→h'.get? c=some o)→Q (.ref (s.heap.objs.size + 4)) { s with heap:=h' }) :
  wpAny (model prog w) A (call (.type "zip") [.str x t,.ref p]) Q E s:=by
 refine callType_new F.called_zip (by decide) (F.typeCall_zip_2 _ _) (F.newCall_zip_2 _ _) (fun obj=>F.args_object_init_3 obj _ _) F.entry_zip_new (DH x t p ys ha) ⟨hp,?_⟩
 have z1:(zs1 s.heap x t).objs.size=s.heap.objs.size + 1:=Heap.size_push ..
 have z2:(zs2 s.heap x t p).objs.size=s.heap.objs.size + 2:=by rw[Heap.size_push,z1]
 have z3:(zs3 s.heap x t p).objs.size=s.heap.objs.size + 3:=by rw[Heap.size_push,z2]
 have z4:(zs4 s.heap x t p).objs.size=s.heap.objs.size + 4:=by rw[Heap.size_push,z3]
 have k5:(zs5 s.heap x t p).get? (zs4 s.heap x t p).objs.size=some _:=Heap.get?_push_size _ rfl
 have k4:(zs5 s.heap x t p).get? (zs3 s.heap x t p).objs.size=some _:=Heap.get?_push_of_some _ (Heap.get?_push_size _ rfl)
 have k3:(zs5 s.heap x t p).get? (zs2 s.heap x t p).objs.size=some _:=Heap.get?_push_of_some _ (Heap.get?_push_of_some _ (Heap.get?_push_size _ rfl))
 have k2:(zs5 s.heap x t p).get? (zs1 s.heap x t).objs.size=some _:=Heap.get?_push_of_some _ (Heap.get?_push_of_some _ (Heap.get?_push_of_some _ (Heap.get?_push_size _ rfl)))
 have k1:(zs5 s.heap x t p).get? s.heap.objs.size=some _:=Heap.get?_push_of_some _ (Heap.get?_push_of_some _ (Heap.get?_push_of_some _ (Heap.get?_push_of_some _ (Heap.get?_push_size _ rfl))))
 show _∧_
 rw[z2,z3,z4] at k5
 rw[z1,z2] at k3
 rw[z3] at k4
 rw[z1] at k2
 rw[z4]
 exact⟨⟨_,k5,rfl⟩,h _ k5 k3 k4 ⟨_,k1,rfl,rfl⟩ ⟨_,k2,rfl,rfl⟩ fun c o q=>Heap.get?_push_of_some _ (Heap.get?_push_of_some _ (Heap.get?_push_of_some _ (Heap.get?_push_of_some _ (Heap.get?_push_of_some _ q))))⟩
end
section
variable {X:Cx}
def iZs (K:PySem.W.Frag) (ta:TA):TI:=fun σ H R=>ta σ H fun vs H1=>∃ (x:Str) (q:Addr) (ys:List V),vs=[.str x,.ref q]∧x.cps.all (· < 128)=true∧SqT K H1 q ys∧R (Ld K x q) H1
theorem Ka {a b:Expr} {ta:TA} {es:List Expr} {kt:Nat} {tp p pos:Pos} (hg:Gl X "zip") (hm:X.mg "zip"=none) (ha:PA X [a,b] ta) (hs:starEach [a,b] X.env=[(false,eval a X.env),(false,eval b X.env)]:=by rfl) (hs2:starEach [b] X.env=[(false,eval b X.env)]:=by rfl) :
  PI X (.Tuple es kt tp) (.Call (.Name "zip" p) [a,b] [] pos) (iZs X.K ta):=by
 intro pins s σ H R I h
 refine Call_ (g_ I hg hm (by decide +kernel:bootBuiltins "zip"=some (.type "zip")) (PyProof.Rows.callWith_type1 (thn (ha pos pins s σ H _ I h) fun us s1 ⟨vs,H1,I1,r1,q1⟩=>?_) (by rw[hs,hs2]) (by rw[hs2];rfl)))
 obtain⟨x,l2,ys,e,has,h2,q⟩:=q1
 subst e
 obtain⟨u,w',rfl,ru,rw'⟩:=vals2 r1
 obtain⟨t,rfl⟩:=ru
 cases rw'
 obtain⟨its,rt,ht,hz⟩:=I1.tuple h2
 have htt:s1.heap.IsTuple l2 its.toArray:=ht
 refine GD has htt fun h' hz hTI hTO hi1 hi2 hk=>wpAny_pyIter_zip hz ?_
 have I2:Inv X pins σ H1 { s1 with heap:=h' }:=I1.kept (t':=s1.toks) hk
 have lt:∀ i j:Nat,i < j→s1.heap.objs.size + i≠s1.heap.objs.size + j:=fun i j h e=>by omega
 have ltp:l2 < s1.heap.objs.size:=by obtain⟨_,e,_⟩:=htt;exact Heap.lt_size e
 have D:ZsD (s1.heap.objs.size + 4) (s1.heap.objs.size + 2) (s1.heap.objs.size + 3) s1.heap.objs.size (s1.heap.objs.size + 1) l2:=
  ⟨⟨lt 2 4 (by decide),lt 3 4 (by decide),lt 0 4 (by decide),lt 1 4 (by decide),lt 2 3 (by decide),(lt 0 2 (by decide)).symm,(lt 1 2 (by decide)).symm,(lt 0 3 (by decide)).symm,(lt 1 3 (by decide)).symm,lt 0 1 (by decide)⟩,Nat.ne_of_lt (Nat.lt_of_lt_of_le ltp (Nat.le_add_right _ _)),Nat.ne_of_lt (Nat.lt_of_lt_of_le ltp (Nat.le_add_right _ _)),Nat.ne_of_lt ltp,Nat.ne_of_lt (Nat.lt_of_lt_of_le ltp (Nat.le_add_right _ _))⟩
 refine⟨_,_,_,_,H1,rfl,I2,E6 _ _ _ _ _ l2 x t D,⟨hz,hTI,⟨_,_,hTO⟩,hi1,hi2⟩,fun b hb=>?_,q⟩
 have hge:s1.heap.objs.size≤b:=by
  simp only[List.mem_cons,List.not_mem_nil,or_false] at hb
  rcases hb with rfl | rfl | rfl | rfl | rfl <;> omega
 exact I1.p8 hge (I1.hok.fresh hge)
end
end L2
namespace L3
open PySem L2
inductive D where
 | non | bl (b:Bool) | int (i:Int) | str (x:Str) | lst (xs:List D) | tup (xs:List D) | ktup (xs:List D) | ins (C:Addr) (ns:List Str) (xs:List D) | scr (ns:List Int) | ty (n:String) | adr (a:Addr)
mutual
def Rep (K:PySem.W.Frag) (F:Hp):D→V→Prop
 | .non,v=>v=.non
 | .bl b,v=>v=.bl b
 | .int i,v=>v=.int i
 | .str x,v=>v=.str x
 | .ty n,v=>v=.ty n
 | .adr a,v=>v=.ref a
 | .scr ns,v=>∃ p,v=.ref p∧SqL K F p (ns.map V.int)
 | .lst xs,v=>∃ p vs,v=.ref p∧F p=some (.lst vs)∧aF K F xs vs
 | .tup xs,v=>∃ p vs,v=.ref p∧F p=some (.tup vs)∧aF K F xs vs
 | .ktup xs,v=>∃ p vs,v=.ref p∧SqT K F p vs∧aF K F xs vs
 | .ins C ns xs,v=>∃ p dx gs,v=.ref p∧F p=some (.ins C dx gs)∧gs.map (·.1)=ns∧aF K F xs (gs.map (·.2))
def aF (K:PySem.W.Frag) (F:Hp):List D→List V→Prop
 | [],vs=>vs=[]
 | x::xs,vs=>∃ v ws,vs=v::ws∧Rep K F x v∧aF K F xs ws
end
theorem SqT.same {K:PySem.W.Frag} {H H':Hp} {a:Addr} {xs:List V} (e:aL H H') (h:SqT K H a xs):SqT K H' a xs:=by
 rcases h with (h | ⟨o,h⟩) | h
 ·exact .inl (.inl (e _ _ h))
 ·exact .inl (.inr ⟨o,e _ _ h⟩)
 ·exact .inr h
mutual
theorem Rep.mono {K:PySem.W.Frag} {F F':Hp} (e:aL F F'):∀ {d:D} {v:V},Rep K F d v→Rep K F' d v
 | .non,_,h=>h
 | .bl _,_,h=>h
 | .int _,_,h=>h
 | .str _,_,h=>h
 | .ty _,_,h=>h
 | .adr _,_,h=>h
 | .scr _,_,⟨p,h1,h2⟩=>⟨p,h1,e.seq h2⟩
 | .lst _,_,⟨p,vs,h1,h2,h3⟩=>⟨p,vs,h1,e _ _ h2,aF.mono e h3⟩
 | .tup _,_,⟨p,vs,h1,h2,h3⟩=>⟨p,vs,h1,e _ _ h2,aF.mono e h3⟩
 | .ktup _,_,⟨p,vs,h1,h2,h3⟩=>⟨p,vs,h1,SqT.same e h2,aF.mono e h3⟩
 | .ins _ _ _,_,⟨p,dx,gs,h1,h2,h3,h4⟩=>⟨p,dx,gs,h1,e _ _ h2,h3,aF.mono e h4⟩
theorem aF.mono {K:PySem.W.Frag} {F F':Hp} (e:aL F F'):∀ {xs:List D} {vs:List V},aF K F xs vs→aF K F' xs vs
 | [],_,h=>h
 | _::_,_,⟨v,ws,h1,h2,h3⟩=>⟨v,ws,h1,Rep.mono e h2,aF.mono e h3⟩
end
end L3
namespace L3
open PySem L2
inductive Sl where
 | fz (d:D) | ow (d:D) | ln (d:D)
abbrev G:=List (Option Sl)
inductive RV where
 | fz (d:D) | fr (d:D)
def RV.d:RV→D
 | .fz d=>d
 | .fr d=>d
def RV.sl:RV→Sl
 | .fz d=>.fz d
 | .fr d=>.ow d
structure Bs where
 F:Hp
 H:Hp
 own:List (Nat×Addr)
def Own (K:PySem.W.Frag) (F H:Hp) (p:Addr):D→Prop
 | .lst xs=>∃ vs,H p=some (.lst vs)∧aF K F xs vs
 | .ins C ns xs=>∃ dx gs,H p=some (.ins C dx gs)∧gs.map (·.1)=ns∧aF K F xs (gs.map (·.2))
 | _=>False
theorem Own.mono {K:PySem.W.Frag} {F F' H H':Hp} {p:Addr} (e:aL F F') (h:H' p=H p):∀ {d:D},Own K F H p d→Own K F' H' p d
 | .lst _,⟨vs,a,b⟩=>⟨vs,h.trans a,b.mono e⟩
 | .ins _ _ _,⟨dx,gs,a,b,c⟩=>⟨dx,gs,h.trans a,b,c.mono e⟩
theorem Own.some {K:PySem.W.Frag} {F H:Hp} {p:Addr}:∀ {d:D},Own K F H p d→∃ o,H p=some o
 | .lst _,⟨_,a,_⟩=>⟨_,a⟩
 | .ins _ _ _,⟨_,_,a,_⟩=>⟨_,a⟩
theorem Own.rep {K:PySem.W.Frag} {F H:Hp} {p:Addr} {o:HO} (hF:F p=none) (ho:H p=Option.some o):∀ {d:D},Own K F H p d→Rep K (upd F p o) d (.ref p)
 | .lst _,⟨vs,a,b⟩=>by
  rw[ho] at a;cases a
  exact⟨p,vs,rfl,aN,b.mono fun x u e=>by rw[au (bE e hF)];exact e⟩
 | .ins _ _ _,⟨dx,gs,a,b,c⟩=>by
  rw[ho] at a;cases a
  exact⟨p,dx,gs,rfl,aN,b,c.mono fun x u e=>by rw[au (bE e hF)];exact e⟩
def Hld (Γ:G) (i:Nat) (d:D):Prop:=Γ[i]?=some (some (Sl.ow d))∨Γ[i]?=some (some (Sl.ln d))
structure En (K:PySem.W.Frag) (B:Bs) (F:Hp) (σ:St) (H:Hp) (Γ:G):Prop where
 sub:aL F H
 len:σ.length=Γ.length
 fz:∀ (i:Nat) (d:D),Γ[i]?=some (some (Sl.fz d))→∃ v,σ[i]?=some (some v)∧Rep K F d v
 hl:∀ (i:Nat) (d:D),Hld Γ i d→∃ p,σ[i]?=some (some (V.ref p))∧F p=none∧Own K F H p d
 ow:∀ (i:Nat) (d:D) (p:Addr),Γ[i]?=some (some (Sl.ow d))→σ[i]?=some (some (V.ref p))→B.H p=none
 ln:∀ (i:Nat) (d:D) (p:Addr),Γ[i]?=some (some (Sl.ln d))→σ[i]?=some (some (V.ref p))→(i,p)∈B.own
 dis:∀ (i j:Nat) (d e:D) (p:Addr),Hld Γ i d→Hld Γ j e→σ[i]?=some (some (V.ref p))→σ[j]?=some (some (V.ref p))→i=j
 par:∀ (i:Nat) (p:Addr),(i,p)∈B.own→σ[i]?=some (some (V.ref p))∧∃ d,Γ[i]?=some (some (Sl.ln d))
 keep:aL B.F F
 new:∀ (b:Addr) (o:HO),F b=some o→B.F b=some o∨B.H b=none
 rest:∀ (b:Addr) (o:HO),B.H b=some o→(∀ i,(i,b)∉B.own)→H b=some o
 dom:∀ b,H b=none→B.H b=none
section
variable {K:PySem.W.Frag} {B:Bs} {F:Hp} {σ:St} {H:Hp} {Γ:G}
theorem En.alloc (e:En K B F σ H Γ) {l:Addr} (hl:H l=none) (o:HO):En K B F σ (upd H l o) Γ where
 sub:=fun b u h=>by rw[au (bE (e.sub b u h) hl)];exact e.sub b u h
 len:=e.len
 fz:=e.fz
 hl:=fun i d h=>by
  obtain⟨p,h1,h2,h3⟩:=e.hl i d h
  obtain⟨u,hu⟩:=h3.some
  exact⟨p,h1,h2,h3.mono (aL.refl F) (au (bE hu hl))⟩
 ow:=e.ow
 ln:=e.ln
 dis:=e.dis
 par:=e.par
 keep:=e.keep
 new:=e.new
 rest:=fun b u h n=>by rw[au (bE (e.rest b u h n) hl)];exact e.rest b u h n
 dom:=fun b h=>by
  by_cases q:b=l
  ·subst q;exact e.dom _ hl
  ·rw[au q] at h;exact e.dom b h
theorem dP {F:Hp} {l:Addr} {o:HO} (h:F l=none):aL F (upd F l o):=fun b u e=>by rw[au (bE e h)];exact e
theorem En.freeze (e:En K B F σ H Γ) {l:Addr} {o:HO} (hF:F l=none) (hH:H l=some o) (hB:B.H l=none) (hn:∀ (i:Nat) (d:D),Hld Γ i d→σ[i]?≠some (some (V.ref l))):En K B (upd F l o) σ H Γ where
 sub:=fun b u h=>by
  by_cases q:b=l
  ·subst q;rw[aN] at h;cases h;exact hH
  ·rw[au q] at h;exact e.sub b u h
 len:=e.len
 fz:=fun i d h=>by
  obtain⟨v,h1,h2⟩:=e.fz i d h
  exact⟨v,h1,h2.mono (dP hF)⟩
 hl:=fun i d h=>by
  obtain⟨p,h1,h2,h3⟩:=e.hl i d h
  have q:p≠l:=fun z=>hn i d h (z ▸ h1)
  exact⟨p,h1,by rw[au q];exact h2,h3.mono (dP hF) rfl⟩
 ow:=e.ow
 ln:=e.ln
 dis:=e.dis
 par:=e.par
 keep:=e.keep.trans (dP hF)
 new:=fun b u h=>by
  by_cases q:b=l
  ·subst q;exact .inr hB
  ·rw[au q] at h;exact e.new b u h
 rest:=e.rest
 dom:=e.dom
def mJ (K:PySem.W.Frag) (B:Bs) (F:Hp) (σ:St) (H:Hp) (Γ:G) (v:V):RV→Prop
 | .fz d=>Rep K F d v
 | .fr d=>∃ p,v=.ref p∧F p=none∧Own K F H p d∧B.H p=none∧∀ (i:Nat) (e:D),Hld Γ i e→σ[i]?≠some (some (V.ref p))
theorem En.frozen (e:En K B F σ H Γ) {v:V}:∀ {r:RV},mJ K B F σ H Γ v r→∃ F',aL F F'∧En K B F' σ H Γ∧Rep K F' r.d v
 | .fz d,h=>⟨F,aL.refl F,e,h⟩
 | .fr d,⟨p,hv,h1,h2,h3,h4⟩=>by
  subst hv
  obtain⟨o,ho⟩:=h2.some
  exact⟨upd F p o,dP h1,e.freeze h1 ho h3 h4,h2.rep h1 ho⟩
def Po (K:PySem.W.Frag) (B:Bs) (F:Hp) (σ:St) (Q:RV→G→Prop):VK:=fun v H'=>∃ F' Γ' r,aL F F'∧En K B F' σ H' Γ'∧mJ K B F' σ H' Γ' v r∧Q r Γ'
abbrev TE3:=G→(RV→G→Prop)→Prop
def Ref (K:PySem.W.Frag) (t:TE) (t3:TE3):Prop:=∀ (B:Bs) (F:Hp) (σ:St) (H:Hp) (Γ:G) (Q:RV→G→Prop) (QQ:VK),En K B F σ H Γ→t3 Γ Q→(∀ v H',Po K B F σ Q v H'→QQ v H')→t σ H QQ
theorem Po.mono {F F':Hp} {Q:RV→G→Prop} {v:V} {H:Hp} (s:aL F F') (h:Po K B F' σ Q v H):Po K B F σ Q v H:=by
 obtain⟨F2,Γ',r,a,b⟩:=h
 exact⟨F2,Γ',r,s.trans a,b⟩
theorem kN (e:En K B F σ H Γ) {Q:RV→G→Prop} {v:V} {d:D} (r:Rep K F d v) (q:Q (.fz d) Γ):Po K B F σ Q v H:=⟨F,Γ,.fz d,aL.refl F,e,r,q⟩
theorem En.BG (e:En K B F σ H Γ) {l:Addr} (hl:H l=none):∀ (i:Nat) (d:D),Hld Γ i d→σ[i]?≠some (some (V.ref l)):=fun i d h z=>by
 obtain⟨p,h1,h2,h3⟩:=e.hl i d h
 rw[h1] at z;cases z
 obtain⟨o,ho⟩:=h3.some
 rw[hl] at ho;cases ho
theorem En.nof (e:En K B F σ H Γ) {l:Addr} (hl:H l=none):F l=none:=by
 cases q:F l with
 | none=>rfl
 | some o=>have:=e.sub _ _ q;rw[hl] at this;cases this
theorem mS (e:En K B F σ H Γ) {Q:RV→G→Prop} {l:Addr} {vs:List V} {xs:List D} (hl:H l=none) (r:aF K F xs vs) (q:Q (.fr (.lst xs)) Γ):Po K B F σ Q (.ref l) (upd H l (.lst vs)):=
 ⟨F,Γ,.fr (.lst xs),aL.refl F,e.alloc hl _,⟨l,rfl,e.nof hl,⟨vs,aN,r⟩,e.dom _ hl,e.BG hl⟩,q⟩
theorem rF (e:En K B F σ H Γ) {Q:RV→G→Prop} {l:Addr} {vs:List V} {xs:List D} (hl:H l=none) (r:aF K F xs vs) (q:Q (.fz (.tup xs)) Γ):Po K B F σ Q (.ref l) (upd H l (.tup vs)):=
 ⟨upd F l (.tup vs),Γ,.fz (.tup xs),dP (e.nof hl),(e.alloc hl _).freeze (e.nof hl) aN (e.dom _ hl) (e.BG hl),⟨l,vs,rfl,aN,r.mono (dP (e.nof hl))⟩,q⟩
def uF (i:Nat) (Γ:G) (Q:RV→G→Prop):Prop:=match Γ[i]? with
 | some (some (.fz d))=>Q (.fz d) Γ
 | some (some (.ow d))=>Q (.fz d) (Γ.set i (some (Sl.fz d)))
 | _=>False
theorem dJ {α:Type} {l:List α} {i j:Nat} {a:α} (h:i≠j):(l.set i a)[j]?=l[j]?:=by rw[List.getElem?_set,if_neg h]
theorem sV {α:Type} {l:List α} {i:Nat} {a b:α} (h:l[i]?=some b):(l.set i a)[i]?=some a:=by
 rw[List.getElem?_set,if_pos rfl,if_pos (List.getElem?_eq_some_iff.mp h).1]
theorem En.give (e:En K B F σ H Γ) {i:Nat} {d:D} (h:Γ[i]?=some (some (Sl.ow d))):∃ F' p,aL F F'∧σ[i]?=some (some (V.ref p))∧Rep K F' d (.ref p)∧En K B F' σ H (Γ.set i (some (Sl.fz d))):=by
 obtain⟨p,h1,h2,h3⟩:=e.hl i d (.inl h)
 obtain⟨o,ho⟩:=h3.some
 have hr:=h3.rep h2 ho
 have back:∀ {j u},j≠i→(Γ.set i (some (Sl.fz d)))[j]?=u→Γ[j]?=u:=fun hj q=>by rw[dJ (Ne.symm hj)] at q;exact q
 have hld:∀ {j x},Hld (Γ.set i (some (Sl.fz d))) j x→j≠i∧Hld Γ j x:=fun {j x} q=>by
  by_cases z:j=i
  ·subst z
   rcases q with q | q <;> rw[sV h] at q <;> cases q
  ·exact⟨z,q.imp (back z) (back z)⟩
 refine⟨upd F p o,p,dP h2,h1,hr,?_,?_,?_,?_,?_,?_,?_,?_,?_,?_,e.rest,e.dom⟩
 ·intro b u q
  by_cases z:b=p
  ·subst z;rw[aN] at q;cases q;exact ho
  ·rw[au z] at q;exact e.sub b u q
 ·rw[List.length_set];exact e.len
 ·intro j x q
  by_cases z:j=i
  ·subst z
   rw[sV h] at q;cases q
   exact⟨_,h1,hr⟩
  ·obtain⟨v,a,b⟩:=e.fz j x (back z q)
   exact⟨v,a,b.mono (dP h2)⟩
 ·intro j x q
  obtain⟨z,q⟩:=hld q
  obtain⟨p',a,b,c⟩:=e.hl j x q
  have ne:p'≠p:=fun y=>z (e.dis j i x d p q (.inl h) (y ▸ a) h1)
  exact⟨p',a,by rw[au ne];exact b,c.mono (dP h2) rfl⟩
 ·intro j x p' q a
  obtain⟨z,_⟩:=hld (.inl q)
  exact e.ow j x p' (back z q) a
 ·intro j x p' q a
  obtain⟨z,_⟩:=hld (.inr q)
  exact e.ln j x p' (back z q) a
 ·intro j k x y p' q1 q2
  exact e.dis j k x y p' (hld q1).2 (hld q2).2
 ·intro j p' q
  obtain⟨a,y,b⟩:=e.par j p' q
  have z:j≠i:=fun z=>by subst z;rw[h] at b;cases b
  exact⟨a,y,by rw[dJ (Ne.symm z)];exact b⟩
 ·exact e.keep.trans (dP h2)
 ·intro b u q
  by_cases z:b=p
  ·subst z;exact .inr (e.ow i d _ h h1)
  ·rw[au z] at q;exact e.new b u q
theorem Fi (i:Nat):Ref K (dO i) (uF i):=by
 intro B F σ H Γ Q QQ e h k
 unfold uF at h
 split at h
 ·rename_i d q
  obtain⟨v,h1,h2⟩:=e.fz i d q
  exact⟨v,h1,k _ _ (kN e h2 h)⟩
 ·rename_i d q
  obtain⟨F',p,s,h1,h2,e'⟩:=e.give q
  exact⟨_,h1,k _ _ ⟨F',_,.fz d,s,e',h2,h⟩⟩
 ·exact h.elim
def t3C (d:D) (Γ:G) (Q:RV→G→Prop):Prop:=Q (.fz d) Γ
theorem uK {v:V} {d:D} (h:∀ F,Rep K F d v):Ref K (tC v) (t3C d):=fun B F σ H Γ Q QQ e q k=>k _ _ (kN e (h F) q)
inductive Bo where
 | d (x:D) | v (i:Nat)
def Gat (Γ:G) (i:Nat):Option D:=match Γ[i]? with
 | some (some (.fz d))=>some d
 | some (some (.ow d))=>some d
 | some (some (.ln d))=>some d
 | _=>none
def Bo.at (Γ:G):Bo→Option D
 | .d x=>some x
 | .v i=>Gat Γ i
def qM (K:PySem.W.Frag) (F:Hp) (σ:St):Bo→V→Prop
 | .d x,v=>Rep K F x v
 | .v i,v=>σ[i]?=some (some v)
def i7 (K:PySem.W.Frag) (F H:Hp):D→V→Prop
 | .lst xs,v=>∃ p vs,v=.ref p∧H p=some (.lst vs)∧aF K F xs vs
 | .ins C ns xs,v=>∃ p dx gs,v=.ref p∧H p=some (.ins C dx gs)∧gs.map (·.1)=ns∧aF K F xs (gs.map (·.2))
 | d,v=>Rep K F d v
theorem Rep.b {K:PySem.W.Frag} {F H:Hp} (s:aL F H):∀ {d:D} {v:V},Rep K F d v→i7 K F H d v
 | .non,_,h=>h
 | .bl _,_,h=>h
 | .int _,_,h=>h
 | .str _,_,h=>h
 | .ty _,_,h=>h
 | .adr _,_,h=>h
 | .scr _,_,h=>h
 | .tup _,_,h=>h
 | .ktup _,_,h=>h
 | .lst _,_,⟨p,vs,h1,h2,h3⟩=>⟨p,vs,h1,s _ _ h2,h3⟩
 | .ins _ _ _,_,⟨p,dx,gs,h1,h2,h3,h4⟩=>⟨p,dx,gs,h1,s _ _ h2,h3,h4⟩
theorem Own.b {K:PySem.W.Frag} {F H:Hp} {p:Addr}:∀ {d:D},Own K F H p d→i7 K F H d (.ref p)
 | .lst _,⟨vs,h1,h2⟩=>⟨p,vs,rfl,h1,h2⟩
 | .ins _ _ _,⟨dx,gs,h1,h2,h3⟩=>⟨p,dx,gs,rfl,h1,h2,h3⟩
theorem qM.mono {F F':Hp} (s:aL F F'):∀ {bo:Bo} {v:V},qM K F σ bo v→qM K F' σ bo v
 | .d _,_,h=>Rep.mono s h
 | .v _,_,h=>h
theorem En.get (e:En K B F σ H Γ) {i:Nat} {d:D} (h:Gat Γ i=some d):∃ v,σ[i]?=some (some v)∧i7 K F H d v:=by
 unfold Gat at h
 split at h
 ·cases h
  rename_i q
  obtain⟨v,h1,h2⟩:=e.fz i _ q
  exact⟨v,h1,h2.b e.sub⟩
 ·cases h
  rename_i q
  obtain⟨p,h1,h2,h3⟩:=e.hl i _ (.inl q)
  exact⟨_,h1,h3.b⟩
 ·cases h
  rename_i q
  obtain⟨p,h1,h2,h3⟩:=e.hl i _ (.inr q)
  exact⟨_,h1,h3.b⟩
 ·cases h
theorem En.bo (e:En K B F σ H Γ):∀ {bo:Bo} {v:V} {d:D},qM K F σ bo v→bo.at Γ=some d→i7 K F H d v
 | .d x,v,d,h,q=>by cases q;exact Rep.b e.sub h
 | .v i,v,d,h,q=>by
  obtain⟨u,h1,h2⟩:=e.get q
  rw[show σ[i]?=some (some v) from h] at h1
  cases h1
  exact h2
abbrev TB3:=G→(Bo→G→Prop)→Prop
def PoB (K:PySem.W.Frag) (B:Bs) (F:Hp) (σ:St) (Q:Bo→G→Prop):VK:=fun v H'=>∃ F' Γ' bo,aL F F'∧En K B F' σ H' Γ'∧qM K F' σ bo v∧Q bo Γ'
def tS (K:PySem.W.Frag) (t:TE) (t3:TB3):Prop:=∀ (B:Bs) (F:Hp) (σ:St) (H:Hp) (Γ:G) (Q:Bo→G→Prop) (QQ:VK),En K B F σ H Γ→t3 Γ Q→(∀ v H',PoB K B F σ Q v H'→QQ v H')→t σ H QQ
def bor (i:Nat) (Γ:G) (Q:Bo→G→Prop):Prop:=(∃ d,Gat Γ i=some d)∧Q (.v i) Γ
def bof (a3:TE3) (Γ:G) (Q:Bo→G→Prop):Prop:=a3 Γ fun x Γ1=>Q (.d x.d) Γ1
theorem CM (i:Nat):tS K (dO i) (bor i):=by
 intro B F σ H Γ Q QQ e ⟨⟨d,hd⟩,q⟩ k
 obtain⟨v,h1,_⟩:=e.get hd
 exact⟨v,h1,k _ _ ⟨F,Γ,.v i,aL.refl F,e,h1,q⟩⟩
theorem Fh {t:TE} {a3:TE3} (h:Ref K t a3):tS K t (bof a3):=by
 intro B F σ H Γ Q QQ e q k
 refine h B F σ H Γ _ _ e q (fun v H1 ⟨F1,Γ1,x,s1,e1,r1,q1⟩=>?_)
 obtain⟨F1',s1',e1',r1'⟩:=e1.frozen r1
 exact k _ _ ⟨F1',Γ1,.d x.d,s1.trans s1',e1',r1',q1⟩
def kU (K:PySem.W.Frag) (r:R2) (op:D→D→TE3):Prop:=∀ (B:Bs) (F:Hp) (σ:St) (H:Hp) (Γ:G) (x y:V) (dx dy:D) (Q:RV→G→Prop) (QQ:VK),En K B F σ H Γ→i7 K F H dx x→i7 K F H dy y→op dx dy Γ Q→(∀ v H',Po K B F σ Q v H'→QQ v H')→r x y H QQ
def oE (op:D→D→TE3) (a3 b3:TB3) (Γ:G) (Q:RV→G→Prop):Prop:=a3 Γ fun x Γ1=>b3 Γ1 fun y Γ2=>∃ dx dy,x.at Γ2=some dx∧y.at Γ2=some dy∧op dx dy Γ2 Q
theorem iJ {r:R2} {ta tb:TE} {a3 b3:TB3} {op:D→D→TE3} (h:kU K r op) (ha:tS K ta a3) (hb:tS K tb b3):Ref K (tOp r ta tb) (oE op a3 b3):=by
 intro B F σ H Γ Q QQ e q k
 refine ha B F σ H Γ _ _ e q (fun v H1 ⟨F1,Γ1,x,s1,e1,r1,q1⟩=>?_)
 refine hb B F1 σ H1 Γ1 _ _ e1 q1 (fun u H2 ⟨F2,Γ2,y,s2,e2,r2,dx,dy,h1,h2,q2⟩=>?_)
 exact h B F2 σ H2 Γ2 v u dx dy Q QQ e2 (e2.bo (r1.mono s2) h1) (e2.bo r2 h2) q2 fun z H3 p=>k z H3 (p.mono (s1.trans s2))
def Cy (op:D→TE3) (a3:TB3) (Γ:G) (Q:RV→G→Prop):Prop:=a3 Γ fun x Γ1=>∃ dx,x.at Γ1=some dx∧op dx Γ1 Q
def K9 (K:PySem.W.Frag) (r:V→Hp→VK→Prop) (op:D→TE3):Prop:=∀ (B:Bs) (F:Hp) (σ:St) (H:Hp) (Γ:G) (x:V) (dx:D) (Q:RV→G→Prop) (QQ:VK),En K B F σ H Γ→i7 K F H dx x→op dx Γ Q→(∀ v H',Po K B F σ Q v H'→QQ v H')→r x H QQ
theorem CN {r:V→Hp→VK→Prop} {ta:TE} {a3:TB3} {op:D→TE3} (h:K9 K r op) (ha:tS K ta a3):Ref K (fun σ H Q=>ta σ H fun x H1=>r x H1 Q) (Cy op a3):=by
 intro B F σ H Γ Q QQ e q k
 refine ha B F σ H Γ _ _ e q (fun v H1 ⟨F1,Γ1,x,s1,e1,r1,dx,h1,q1⟩=>?_)
 exact h B F1 σ H1 Γ1 v dx Q QQ e1 (e1.bo r1 h1) q1 fun z H3 p=>k z H3 (p.mono s1)
end
end L3
namespace L3
open PySem L2 PySem.Spec PyProof.Rows
structure P3 (K:PySem.W.Frag) (X:Cx) (e:Expr) (t:TE) (t3:TE3):Prop where
 pe:PE X e t
 rf:Ref K t t3
structure P3B (K:PySem.W.Frag) (X:Cx) (e:Expr) (t:TE) (t3:TB3):Prop where
 pe:PE X e t
 rf:tS K t t3
section
variable {K:PySem.W.Frag} {X:Cx} {a b c:Expr} {ta tb tc:TE} {a3 b3 c3:TB3} {pos:Pos}
theorem P3.opd {e3:TE3} (h:P3 K X a ta e3):P3B K X a ta (bof e3):=⟨h.pe,Fh h.rf⟩
theorem bv (i:Nat) {x:Str} {pos:Pos} (hN:X.N[i]?=some x:=by rfl) (hv:Vis X.env.scope x:=by first | exact Or.inl rfl | exact Or.inr (Or.inl rfl) | exact Or.inr (Or.inr rfl)) (hd:(x == ("__debug__":Str))=false:=by decide)
  (hcd:(x == ("__classdict__":Str))=false:=by decide):P3B K X (.Name x pos) (dO i) (bor i):=⟨y_ hN hv hd hcd,CM i⟩
theorem iK {B:Bs} {F:Hp} {σ:L2.St} {H:Hp} {Γ:G} {Q:RV→G→Prop} {i:Int} (e:En K B F σ H Γ) (q:Q (.fz (.int i)) Γ):Po K B F σ Q (.int i) H:=kN (d:=.int i) e rfl q
theorem sj {B:Bs} {F:Hp} {σ:L2.St} {H:Hp} {Γ:G} {Q:RV→G→Prop} {i:Str} (e:En K B F σ H Γ) (q:Q (.fz (.str i)) Γ):Po K B F σ Q (.str i) H:=kN (d:=.str i) e rfl q
theorem qx {B:Bs} {F:Hp} {σ:L2.St} {H:Hp} {Γ:G} {Q:RV→G→Prop} {i:Bool} (e:En K B F σ H Γ) (q:Q (.fz (.bl i)) Γ):Po K B F σ Q (.bl i) H:=kN (d:=.bl i) e rfl q
theorem p3v (i:Nat) {x:Str} {pos:Pos} (hN:X.N[i]?=some x:=by rfl) (hv:Vis X.env.scope x:=by first | exact Or.inl rfl | exact Or.inr (Or.inl rfl) | exact Or.inr (Or.inr rfl)) (hd:(x == ("__debug__":Str))=false:=by decide)
  (hcd:(x == ("__classdict__":Str))=false:=by decide):P3 K X (.Name x pos) (dO i) (uF i):=⟨y_ hN hv hd hcd,Fi i⟩
theorem ag {i j pos}:P3 K X (.Constant (.int i) j pos) (tC (.int i)) (t3C (.int i)):=⟨gx,uK fun _=>rfl⟩
theorem fE {i j pos}:P3 K X (.Constant (.bool i) j pos) (tC (.bl i)) (t3C (.bl i)):=⟨Kd,uK fun _=>rfl⟩
theorem bA {x j pos}:P3 K X (.Constant (.str x) j pos) (tC (.str x)) (t3C (.str x)):=⟨za,uK fun _=>rfl⟩
theorem ka {x:Str} {i:Int} {pos:Pos} (hg:Gl X x) (hm:∃ t,X.mg x=some (.int i t)) (hd:(x == ("__debug__":Str))=false:=by decide):P3 K X (.Name x pos) (tC (.int i)) (t3C (.int i)):=
 ⟨let ⟨t,hm⟩:=hm;Au (v:=.int i) hg hm ⟨t,rfl⟩ hd,uK fun _=>rfl⟩
theorem Iu {x y v:Int} {j k:Nat} {pos pos' pos'':Pos} (h:x ^ y.toNat=v) (hc:EW x y):P3 K X (.BinOp (.Constant (.int x) j pos') .Pow (.Constant (.int y) k pos'') pos) (tOp (rI EW fun i j=>.int (i ^ j.toNat)) (tC (.int x)) (tC (.int y))) (t3C (.int v)):=
 ⟨oJ Dr gx gx,fun B F σ H Γ Q QQ e q k=>⟨x,y,rfl,rfl,hc,by show QQ (.int (x ^ y.toNat)) H;rw[h];exact k _ _ (iK e q)⟩⟩
def i2 (C:Int→Int→Prop) (f:Int→Int→D) (x y:D) (Γ:G) (Q:RV→G→Prop):Prop:=match x,y with
 | .int i,.int j=>C i j∧Q (.fz (f i j)) Γ
 | _,_=>False
def i2' (f:Int→Int→D) (x y:D) (Γ:G) (Q:RV→G→Prop):Prop:=match x,y with
 | .int i,.int j=>Q (.fz (f i j)) Γ
 | _,_=>False
theorem opI {C:Int→Int→Prop} {f:Int→Int→D} {g:Int→Int→V} (h:∀ F i j,Rep K F (f i j) (g i j)):kU K (rI C g) (i2 C f):=by
 intro B F σ H Γ x y dx dy Q QQ e rx ry q k
 unfold i2 at q
 split at q
 ·cases rx;cases ry
  exact⟨_,_,rfl,rfl,q.1,k _ _ (kN e (h F _ _) q.2)⟩
 ·exact q.elim
theorem zh {f:Int→Int→D} {g:Int→Int→V} (h:∀ F i j,Rep K F (f i j) (g i j)):kU K (rI0 g) (i2' f):=by
 intro B F σ H Γ x y dx dy Q QQ e rx ry q k
 unfold i2' at q
 split at q
 ·cases rx;cases ry
  exact⟨_,_,rfl,rfl,k _ _ (kN e (h F _ _) q)⟩
 ·exact q.elim
def uu (x y:D) (Γ:G) (Q:RV→G→Prop):Prop:=match x,y with
 | .int i,.int j=>Q (.fz (.int (i + j))) Γ
 | .lst xs,.lst ys=>xs.length + ys.length≤sizeLine∧Q (.fr (.lst (xs++ys))) Γ
 | .str i,.str j=>i.length + j.length≤sizeLine∧Q (.fz (.str (i++j))) Γ
 | _,_=>False
theorem aF.length {F:Hp}:∀ {xs:List D} {vs:List V},aF K F xs vs→vs.length=xs.length
 | [],_,h=>by cases h;rfl
 | _::_,_,⟨v,ws,h1,h2,h3⟩=>by subst h1;simp [h3.length]
theorem aF.append {F:Hp}:∀ {xs ys:List D} {vs ws:List V},aF K F xs vs→aF K F ys ws→aF K F (xs++ys) (vs++ws)
 | [],_,_,_,h,h'=>by cases h;exact h'
 | _::_,_,_,_,⟨v,ws,h1,h2,h3⟩,h'=>by subst h1;exact⟨v,_,rfl,h2,h3.append h'⟩
theorem aF.get {F:Hp}:∀ {xs:List D} {vs:List V},aF K F xs vs→∀ {i:Nat} {d:D},xs[i]?=some d→∃ v,vs[i]?=some v∧Rep K F d v
 | [],_,_,i,d,e=>by simp at e
 | x::xs,_,⟨v,ws,h1,h2,h3⟩,0,d,e=>by subst h1;simp at e;subst e;exact⟨v,rfl,h2⟩
 | x::xs,_,⟨v,ws,h1,h2,h3⟩,i + 1,d,e=>by
  subst h1
  obtain⟨u,a,b⟩:=h3.get (i:=i) (d:=d) (by simpa using e)
  exact⟨u,by simpa using a,b⟩
theorem aF.Ji {F:Hp}:∀ {xs:List D} {vs:List V},aF K F xs vs→∀ {i:Nat} {v:V},vs[i]?=some v→∃ d,xs[i]?=some d∧Rep K F d v:=fun {xs vs} h {i v} e=>by
 have hi:i < vs.length:=(List.getElem?_eq_some_iff.mp e).1
 rw[h.length] at hi
 obtain⟨u,a,b⟩:=h.get (List.getElem?_eq_getElem hi)
 rw[e] at a;cases a
 exact⟨_,List.getElem?_eq_getElem hi,b⟩
theorem aF.take {F:Hp}:∀ {xs:List D} {vs:List V} (n:Nat),aF K F xs vs→aF K F (xs.take n) (vs.take n)
 | _,_,0,_=>by simp [aF]
 | [],_,n + 1,h=>by cases h;simp [aF]
 | x::xs,_,n + 1,⟨v,ws,h1,h2,h3⟩=>by subst h1;exact⟨v,_,rfl,h2,aF.take n h3⟩
theorem aF.drop {F:Hp}:∀ {xs:List D} {vs:List V} (n:Nat),aF K F xs vs→aF K F (xs.drop n) (vs.drop n)
 | _,_,0,h=>h
 | [],_,n + 1,h=>by cases h;simp [aF]
 | x::xs,_,n + 1,⟨v,ws,h1,h2,h3⟩=>by subst h1;exact aF.drop n h3
theorem aF.set {F:Hp} {d:D} {v:V} (r:Rep K F d v):∀ {xs:List D} {vs:List V} (n:Nat),aF K F xs vs→aF K F (xs.set n d) (vs.set n v)
 | [],_,_,h=>by cases h;simp [aF]
 | x::xs,_,0,⟨u,ws,h1,h2,h3⟩=>by subst h1;exact⟨v,ws,rfl,r,h3⟩
 | x::xs,_,n + 1,⟨u,ws,h1,h2,h3⟩=>by subst h1;exact⟨u,_,rfl,h2,aF.set r n h3⟩
theorem aF.ints {F:Hp}:∀ (ns:List Int),aF K F (ns.map D.int) (ns.map V.int)
 | []=>rfl
 | n::ns=>⟨_,_,rfl,rfl,aF.ints ns⟩
abbrev Bv:R2:=fun x y H Q=>rI0 (fun i j=>.int (i + j)) x y H Q∨J5 x y H Q∨(∃ i j,x=.str i∧y=.str j∧i.length + j.length≤sizeLine∧Q (.str (i++j)) H)
theorem FZ:OpR X (binaryOp .Add) Bv:=IE.or (ID.or zg)
theorem addRef:kU K Bv uu:=by
 intro B F σ H Γ x y dx dy Q QQ e rx ry q k
 unfold uu at q
 split at q
 ·cases rx;cases ry
  exact .inl ⟨_,_,rfl,rfl,k _ _ (iK e q)⟩
 ·obtain⟨p,vs,rfl,h1,h2⟩:=rx
  obtain⟨p',ws,rfl,h3,h4⟩:=ry
  refine .inr (.inl ⟨p,p',vs,ws,rfl,rfl,h1,h3,by rw[h2.length,h4.length];exact q.1,fun l hl=>k _ _ (mS e hl (h2.append h4) q.2)⟩)
 ·cases rx;cases ry
  exact .inr (.inr ⟨_,_,rfl,rfl,q.1,k _ _ (sj e q.2)⟩)
 ·exact q.elim
theorem aJ (ha:P3B K X a ta a3) (hb:P3B K X b tb b3):P3 K X (.BinOp a .Add b pos) (tOp Bv ta tb) (oE uu a3 b3):=⟨oJ FZ ha.pe hb.pe,iJ addRef ha.rf hb.rf⟩
theorem cG (ha:P3B K X a ta a3) (hb:P3B K X b tb b3):P3 K X (.BinOp a .Sub b pos) (tOp (rI0 fun i j=>.int (i - j)) ta tb) (oE (i2' fun i j=>.int (i - j)) a3 b3):=⟨oJ Iy ha.pe hb.pe,iJ (zh fun _ _ _=>rfl) ha.rf hb.rf⟩
theorem g0 (ha:P3B K X a ta a3) (hb:P3B K X b tb b3):P3 K X (.BinOp a .Mult b pos) (tOp (rI EX fun i j=>.int (i * j)) ta tb) (oE (i2 EX fun i j=>.int (i * j)) a3 b3):=⟨oJ IA ha.pe hb.pe,iJ (opI fun _ _ _=>rfl) ha.rf hb.rf⟩
theorem cI (ha:P3B K X a ta a3) (hb:P3B K X b tb b3):P3 K X (.BinOp a .FloorDiv b pos) (tOp (rI JB fun i j=>.int (i / j)) ta tb) (oE (i2 JB fun i j=>.int (i / j)) a3 b3):=⟨oJ FX ha.pe hb.pe,iJ (opI fun _ _ _=>rfl) ha.rf hb.rf⟩
theorem nU (ha:P3B K X a ta a3) (hb:P3B K X b tb b3):P3 K X (.BinOp a .Mod b pos) (tOp (rI (fun _ j=>0 < j) fun i j=>.int (i % j)) ta tb) (oE (i2 (fun _ j=>0 < j) fun i j=>.int (i % j)) a3 b3):=⟨oJ IB ha.pe hb.pe,iJ (opI fun _ _ _=>rfl) ha.rf hb.rf⟩
theorem FO (ha:P3B K X a ta a3) (hb:P3B K X b tb b3):P3 K X (.BinOp a .Pow b pos) (tOp (rI EW fun i j=>.int (i ^ j.toNat)) ta tb) (oE (i2 EW fun i j=>.int (i ^ j.toNat)) a3 b3):=⟨oJ Dr ha.pe hb.pe,iJ (opI fun _ _ _=>rfl) ha.rf hb.rf⟩
def uk (f:Int→Int→Bool) (x y:D) (Γ:G) (Q:RV→G→Prop):Prop:=i2' (fun i j=>.bl (f i j)) x y Γ Q
abbrev zV (i j:Int):Bool:=decide (i < j)
abbrev qa (i j:Int):Bool:=decide (i≤j)
abbrev pq (i j:Int):Bool:=decide (j < i)
abbrev Mq (i j:Int):Bool:=decide (j≤i)
structure C3 (K:PySem.W.Frag) (X:Cx) (op:CmpOp) (r:R2) (o3:D→D→TE3):Prop where
 op:OpR X (compareOp op) r
 rf:kU K r o3
theorem A4:C3 K X .Lt (rI0 fun i j=>.bl (decide (i < j))) (uk zV):=⟨Kh,zh fun _ _ _=>rfl⟩
theorem qG:C3 K X .LtE (rI0 fun i j=>.bl (decide (i≤j))) (uk qa):=⟨Ki,zh fun _ _ _=>rfl⟩
theorem tJ:C3 K X .Gt (rI0 fun i j=>.bl (decide (j < i))) (uk pq):=⟨Kj,zh fun _ _ _=>rfl⟩
def eqS:D→D→Option Bool
 | .int i,.int j=>some (decide (i=j))
 | .str i,.str j=>some (decide (i=j))
 | .bl i,.bl j=>some (decide (i=j))
 | .non,.non=>some true
 | .int _,.str _=>some false
 | .str _,.int _=>some false
 | .bl _,.str _=>some false
 | .str _,.bl _=>some false
 | .non,.int _=>some false
 | .int _,.non=>some false
 | .non,.str _=>some false
 | .str _,.non=>some false
 | .non,.bl _=>some false
 | .bl _,.non=>some false
 | _,_=>none
def eq3 (neg:Bool) (x y:D) (Γ:G) (Q:RV→G→Prop):Prop:=match eqS x y with
 | some k=>Q (.fz (.bl (neg ^^ k))) Γ
 | none=>False
theorem iL {op:CmpOp} {r:R2} {o3:D→D→TE3} (h:C3 K X op r o3) (ha:P3B K X a ta a3) (hb:P3B K X b tb b3) (hm:behindInMarks op b=false):P3 K X (.Compare a [op] [b] pos) (tOp r ta tb) (oE o3 a3 b3):=⟨FG h.op ha.pe hb.pe hm,iJ h.rf ha.rf hb.rf⟩
def mP (o3 o3':D→D→TE3) (a3 b3 c3:TB3) (Γ:G) (Q:RV→G→Prop):Prop:=a3 Γ fun x Γ1=>b3 Γ1 fun y Γ2=>∃ dx dy,x.at Γ2=some dx∧y.at Γ2=some dy∧o3 dx dy Γ2 fun z Γ3=>match z with
 | .fz (.bl true)=>c3 Γ3 fun w Γ4=>∃ dy dw,y.at Γ4=some dy∧w.at Γ4=some dw∧o3' dy dw Γ4 Q
 | .fz (.bl false)=>Q (.fz (.bl false)) Γ3
 | _=>False
theorem uJ {r r':R2} {o3 o3':D→D→TE3} (h:kU K r o3) (h':kU K r' o3') (ha:tS K ta a3) (hb:tS K tb b3) (hc:tS K tc c3):Ref K (rQ r r' ta tb tc) (mP o3 o3' a3 b3 c3):=by
 intro B F σ H Γ Q QQ e q k
 refine ha B F σ H Γ _ _ e q (fun v H1 ⟨F1,Γ1,x,s1,e1,r1,q1⟩=>?_)
 refine hb B F1 σ H1 Γ1 _ _ e1 q1 (fun u H2 ⟨F2,Γ2,y,s2,e2,r2,dx,dy,h1,h2,q2⟩=>?_)
 refine h B F2 σ H2 Γ2 v u dx dy _ _ e2 (e2.bo (r1.mono s2) h1) (e2.bo r2 h2) q2 fun z H3 ⟨F3,Γ3,z3,s3,e3,r3,q3⟩=>?_
 have sall:=(s1.trans s2).trans s3
 revert r3 q3
 split
 ·intro r3 q3
  refine⟨true,r3,?_⟩
  rw[if_pos rfl]
  refine hc B F3 σ H3 Γ3 _ _ e3 q3 (fun w H4 ⟨F4,Γ4,w3,s4,e4,r4,dy,dw,h3,h4,q4⟩=>?_)
  exact h' B F4 σ H4 Γ4 u w dy dw Q QQ e4 (e4.bo (r2.mono (s3.trans s4)) h3) (e4.bo r4 h4) q4 fun z H5 p=>k z H5 (p.mono (sall.trans s4))
 ·intro r3 q3
  refine⟨false,r3,?_⟩
  rw[if_neg (by simp)]
  exact k _ _ (Po.mono sall (qx e3 q3))
 ·intro _ q3;exact q3.elim
theorem Dn {op op':CmpOp} {r r':R2} {o3 o3':D→D→TE3} (h:C3 K X op r o3) (h':C3 K X op' r' o3') (ha:P3B K X a ta a3) (hb:P3B K X b tb b3) (hc:P3B K X c tc c3) (hm:lastMarks [op,op'] [b,c]=false:=by with_unfolding_all rfl) :
  P3 K X (.Compare a [op,op'] [b,c] pos) (rQ r r' ta tb tc) (mP o3 o3' a3 b3 c3):=⟨Dd h.op h'.op ha.pe hb.pe hc.pe hm,uJ h.rf h'.rf ha.rf hb.rf hc.rf⟩
def DC (x:D) (Γ:G) (Q:RV→G→Prop):Prop:=match x with
 | .int i=>Q (.fz (.int (-i))) Γ
 | _=>False
theorem fR (ha:P3B K X a ta a3):P3 K X (.UnaryOp .USub a pos) (tUn (rU fun i=>.int (-i)) ta) (Cy DC a3):=⟨As vp ha.pe,CN (r:=rU fun i=>.int (-i)) (ta:=ta) (by
 intro B F σ H Γ x dx Q QQ e rx q k
 unfold DC at q
 split at q
 ·cases rx
  exact⟨_,rfl,k _ _ (iK e q)⟩
 ·exact q.elim) ha.rf⟩
end
end L3
namespace L3
open PySem L2 PySem.Spec
abbrev TT3:=G→(Bool→G→Prop)→Prop
def PoT (K:PySem.W.Frag) (B:Bs) (F:Hp) (σ:L2.St) (Q:Bool→G→Prop):Bool→Hp→Prop:=fun b H'=>∃ F' Γ',aL F F'∧En K B F' σ H' Γ'∧Q b Γ'
def rB (K:PySem.W.Frag) (t:TT) (t3:TT3):Prop:=∀ (B:Bs) (F:Hp) (σ:L2.St) (H:Hp) (Γ:G) (Q:Bool→G→Prop) (QQ:Bool→Hp→Prop),En K B F σ H Γ→t3 Γ Q→(∀ b H',PoT K B F σ Q b H'→QQ b H')→t σ H QQ
structure P3T (K:PySem.W.Frag) (X:Cx) (e:Expr) (t:TT) (t3:TT3):Prop where
 pe:PT X e t
 rf:rB K t t3
structure P3W (K:PySem.W.Frag) (X:Cx) (e:Expr) (t:TT) (t3:TT3):Prop where
 pe:PW X e t
 rf:rB K t t3
section
variable {K:PySem.W.Frag} {X:Cx} {a b c:Expr} {ta tb tc:TE} {a3 b3 c3:TE3} {a3' b3' c3':TB3} {pos:Pos} {tA tB':TT} {A3 B3:TT3} {rest:List Expr}
def tst (a3:TE3) (Γ:G) (Q:Bool→G→Prop):Prop:=a3 Γ fun x Γ1=>match x.d with
 | .bl k=>Q k Γ1
 | _=>False
theorem PoT.mono {B:Bs} {F F':Hp} {σ:L2.St} {H:Hp} {Q:Bool→G→Prop} {k:Bool} (s:aL F F') (h:PoT K B F' σ Q k H):PoT K B F σ Q k H:=by
 obtain⟨F2,Γ',a,b⟩:=h
 exact⟨F2,Γ',s.trans a,b⟩
theorem CT (h:Ref K ta a3):rB K (fun σ H Q=>ta σ H fun x H1=>∃ c,x=.bl c∧Q c H1) (tst a3):=by
 intro B F σ H Γ Q QQ e q k
 refine h B F σ H Γ _ _ e q (fun v H1 ⟨F1,Γ1,x,s1,e1,r1,q1⟩=>?_)
 obtain⟨F1',s1',e1',r1'⟩:=e1.frozen r1
 revert r1' q1
 split
 ·rename_i hz
  intro q1 r1'
  rw[hz] at r1'
  exact⟨_,r1',k _ _ ⟨F1',Γ1,s1.trans s1',e1',q1⟩⟩
 ·intro q1;exact q1.elim
theorem cb {e:Expr} {t:TE} {e3:TE3} (h:P3 K X e t e3) (he:∀ whole,isTrue e X.env whole=(do let v ← whole;standAt e.pos;holding [v] (truthy v)):=by intro _;rfl):P3T K X e (tB t) (tst e3):=⟨H9 h.pe he,CT h.rf⟩
theorem aI {op:CmpOp} {r:R2} {o3:D→D→TE3} (h:C3 K X op r o3) (ha:P3B K X a ta a3') (hb:P3B K X b tb b3') (hm:behindInMarks op b=false):P3T K X (.Compare a [op] [b] pos) (Ag (tOp r ta tb)) (tst (oE o3 a3' b3')):=
 ⟨Fp h.op ha.pe hb.pe hm,CT (iJ h.rf ha.rf hb.rf)⟩
theorem BD {op op':CmpOp} {r r':R2} {o3 o3':D→D→TE3} (h:C3 K X op r o3) (h':C3 K X op' r' o3') (ha:P3B K X a ta a3') (hb:P3B K X b tb b3') (hc:P3B K X c tc c3') (hm:lastMarks [op,op'] [b,c]=false:=by with_unfolding_all rfl) :
  P3T K X (.Compare a [op,op'] [b,c] pos) (Ag (rQ r r' ta tb tc)) (tst (mP o3 o3' a3' b3' c3')):=⟨C1 h.op h'.op ha.pe hb.pe hc.pe hm,CT (uJ h.rf h'.rf ha.rf hb.rf hc.rf)⟩
def GV (A3 B3:TT3) (Γ:G) (Q:Bool→G→Prop):Prop:=A3 Γ fun c Γ1=>match c with
 | true=>B3 Γ1 Q
 | false=>Q false Γ1
def or3 (A3 B3:TT3) (Γ:G) (Q:Bool→G→Prop):Prop:=A3 Γ fun c Γ1=>match c with
 | true=>Q true Γ1
 | false=>B3 Γ1 Q
def F_ (A3:TT3) (Γ:G) (Q:Bool→G→Prop):Prop:=A3 Γ fun c Γ1=>Q (!c) Γ1
theorem Fn (ha:rB K tA A3) (hb:rB K tB' B3):rB K (HJ tA tB') (GV A3 B3):=by
 intro B F σ H Γ Q QQ e q k
 refine ha B F σ H Γ _ _ e q (fun c H1 ⟨F1,Γ1,s1,e1,q1⟩=>?_)
 cases c with
 | true=>exact zJ (hb B F1 σ H1 Γ1 _ _ e1 q1 fun c H2 p=>k _ _ (p.mono s1))
 | false=>exact zK (k _ _ ⟨F1,Γ1,s1,e1,q1⟩)
theorem HW (ha:rB K tA A3) (hb:rB K tB' B3):rB K (tOr tA tB') (or3 A3 B3):=by
 intro B F σ H Γ Q QQ e q k
 refine ha B F σ H Γ _ _ e q (fun c H1 ⟨F1,Γ1,s1,e1,q1⟩=>?_)
 cases c with
 | true=>exact zJ (k _ _ ⟨F1,Γ1,s1,e1,q1⟩)
 | false=>exact zK (hb B F1 σ H1 Γ1 _ _ e1 q1 fun c H2 p=>k _ _ (p.mono s1))
theorem Fj (ha:rB K tA A3):rB K (HH tA) (F_ A3):=by
 intro B F σ H Γ Q QQ e q k
 exact ha B F σ H Γ _ _ e q (fun c H1 ⟨F1,Γ1,s1,e1,q1⟩=>k _ _ ⟨F1,Γ1,s1,e1,q1⟩)
theorem xS (ha:P3T K X a tA A3):P3W K X (.BoolOp .And [a] pos) tA A3:=⟨Fo ha.pe,ha.rf⟩
theorem eM (ha:P3T K X a tA A3):P3W K X (.BoolOp .Or [a] pos) tA A3:=⟨HY ha.pe,ha.rf⟩
theorem Ay (ha:P3T K X a tA A3) (hb:P3W K X (.BoolOp .And (b::rest) pos) tB' B3):P3W K X (.BoolOp .And (a::b::rest) pos) (HJ tA tB') (GV A3 B3):=⟨HZ ha.pe hb.pe,Fn ha.rf hb.rf⟩
theorem fQ (ha:P3T K X a tA A3) (hb:P3W K X (.BoolOp .Or (b::rest) pos) tB' B3):P3W K X (.BoolOp .Or (a::b::rest) pos) (tOr tA tB') (or3 A3 B3):=⟨J6 ha.pe hb.pe,HW ha.rf hb.rf⟩
theorem P3W.pt {e:Expr} (h:P3W K X e tA A3):P3T K X e tA A3:=⟨h.pe.pt,h.rf⟩
theorem cg (ha:P3T K X a tA A3):P3T K X (.UnaryOp .Not a pos) (HH tA) (F_ A3):=⟨H_ ha.pe,Fj ha.rf⟩
def qL (a3 b3'':TE3) (Γ:G) (Q:RV→G→Prop):Prop:=a3 Γ fun x Γ1=>match x.d with
 | .bl true=>b3'' Γ1 Q
 | .bl false=>Q (.fz (.bl false)) Γ1
 | _=>False
def FV (a3 b3'':TE3) (Γ:G) (Q:RV→G→Prop):Prop:=a3 Γ fun x Γ1=>match x.d with
 | .bl true=>Q (.fz (.bl true)) Γ1
 | .bl false=>b3'' Γ1 Q
 | _=>False
def AA (a3:TE3) (Γ:G) (Q:RV→G→Prop):Prop:=a3 Γ fun x Γ1=>match x.d with
 | .bl k=>Q (.fz (.bl (!k))) Γ1
 | _=>False
theorem su {op} (h:P3 K X a ta a3):P3 K X (.BoolOp op [a] pos) ta a3:=⟨Io h.pe,h.rf⟩
theorem vY (ha:P3 K X a ta a3) (hb:P3 K X (.BoolOp .And (b::rest) pos) tb b3):P3 K X (.BoolOp .And (a::b::rest) pos) (G7 ta tb) (qL a3 b3):=⟨Ir ha.pe hb.pe,by
 intro B F σ H Γ Q QQ e q k
 refine ha.rf B F σ H Γ _ _ e q (fun v H1 ⟨F1,Γ1,x,s1,e1,r1,q1⟩=>?_)
 obtain⟨F1',s1',e1',r1'⟩:=e1.frozen r1
 revert r1' q1
 split
 ·rename_i hz
  intro q1 r1'
  rw[hz] at r1'
  exact⟨true,r1',zJ (hb.rf B F1' σ H1 Γ1 _ _ e1' q1 fun v H2 p=>k _ _ (p.mono (s1.trans s1')))⟩
 ·rename_i hz
  intro q1 r1'
  rw[hz] at r1'
  exact⟨false,r1',zK (k _ _ (Po.mono (s1.trans s1') (qx e1' q1)))⟩
 ·intro q1;exact q1.elim⟩
theorem Kf (ha:P3 K X a ta a3) (hb:P3 K X (.BoolOp .Or (b::rest) pos) tb b3):P3 K X (.BoolOp .Or (a::b::rest) pos) (JI ta tb) (FV a3 b3):=⟨Kb ha.pe hb.pe,by
 intro B F σ H Γ Q QQ e q k
 refine ha.rf B F σ H Γ _ _ e q (fun v H1 ⟨F1,Γ1,x,s1,e1,r1,q1⟩=>?_)
 obtain⟨F1',s1',e1',r1'⟩:=e1.frozen r1
 revert r1' q1
 split
 ·rename_i hz
  intro q1 r1'
  rw[hz] at r1'
  exact⟨true,r1',zJ (k _ _ (Po.mono (s1.trans s1') (qx e1' q1)))⟩
 ·rename_i hz
  intro q1 r1'
  rw[hz] at r1'
  exact⟨false,r1',zK (hb.rf B F1' σ H1 Γ1 _ _ e1' q1 fun v H2 p=>k _ _ (p.mono (s1.trans s1')))⟩
 ·intro q1;exact q1.elim⟩
theorem Iw (ha:P3 K X a ta a3):P3 K X (.UnaryOp .Not a pos) (G3 ta) (AA a3):=⟨Ip ha.pe,by
 intro B F σ H Γ Q QQ e q k
 refine ha.rf B F σ H Γ _ _ e q (fun v H1 ⟨F1,Γ1,x,s1,e1,r1,q1⟩=>?_)
 obtain⟨F1',s1',e1',r1'⟩:=e1.frozen r1
 revert r1' q1
 split
 ·rename_i hz
  intro q1 r1'
  rw[hz] at r1'
  exact⟨_,r1',k _ _ (Po.mono (s1.trans s1') (qx e1' q1))⟩
 ·intro q1;exact q1.elim⟩
def if3 (A3:TT3) (a3 b3:TE3) (Γ:G) (Q:RV→G→Prop):Prop:=A3 Γ fun c Γ1=>match c with
 | true=>a3 Γ1 Q
 | false=>b3 Γ1 Q
theorem Dj {c:Expr} (hc:P3T K X c tA A3) (ha:P3 K X a ta a3) (hb:P3 K X b tb b3):P3 K X (.IfExp c a b pos) (tIf tA ta tb) (if3 A3 a3 b3):=⟨C_ hc.pe ha.pe hb.pe,by
 intro B F σ H Γ Q QQ e q k
 refine hc.rf B F σ H Γ _ _ e q (fun c H1 ⟨F1,Γ1,s1,e1,q1⟩=>?_)
 cases c with
 | true=>exact zJ (ha.rf B F1 σ H1 Γ1 _ _ e1 q1 fun v H2 p=>k _ _ (p.mono s1))
 | false=>exact zK (hb.rf B F1 σ H1 Γ1 _ _ e1 q1 fun v H2 p=>k _ _ (p.mono s1))⟩
end
abbrev TA3:=G→(List D→G→Prop)→Prop
def PoA (K:PySem.W.Frag) (B:Bs) (F:Hp) (σ:L2.St) (Q:List D→G→Prop):List V→Hp→Prop:=fun vs H'=>∃ F' Γ' ds,aL F F'∧En K B F' σ H' Γ'∧aF K F' ds vs∧Q ds Γ'
def La (K:PySem.W.Frag) (t:TA) (t3:TA3):Prop:=∀ (B:Bs) (F:Hp) (σ:L2.St) (H:Hp) (Γ:G) (Q:List D→G→Prop) (QQ:List V→Hp→Prop),En K B F σ H Γ→t3 Γ Q→(∀ vs H',PoA K B F σ Q vs H'→QQ vs H')→t σ H QQ
structure P3A (K:PySem.W.Frag) (X:Cx) (es:List Expr) (t:TA) (t3:TA3):Prop where
 pe:PA X es t
 rf:La K t t3
section
variable {K:PySem.W.Frag} {X:Cx} {e:Expr} {es:List Expr} {te:TE} {e3:TE3} {t:TA} {t3:TA3} {pos:Pos}
def BH (Γ:G) (Q:List D→G→Prop):Prop:=Q [] Γ
def mz (e3:TE3) (t3:TA3) (Γ:G) (Q:List D→G→Prop):Prop:=e3 Γ fun x Γ1=>t3 Γ1 fun xs Γ2=>Q (x.d::xs) Γ2
theorem aq:P3A K X [] lA BH:=⟨el,fun B F σ H Γ Q QQ e q k=>k _ _ ⟨F,Γ,[],aL.refl F,e,rfl,q⟩⟩
theorem ae (ha:P3 K X e te e3) (hr:P3A K X es t t3) (hs:starEach (e::es) X.env=(false,eval e X.env)::starEach es X.env:=by rfl):P3A K X (e::es) (ip te t) (mz e3 t3):=⟨bO ha.pe hr.pe hs,by
 intro B F σ H Γ Q QQ e q k
 refine ha.rf B F σ H Γ _ _ e q (fun v H1 ⟨F1,Γ1,x,s1,e1,r1,q1⟩=>?_)
 obtain⟨F1',s1',e1',r1'⟩:=e1.frozen r1
 refine hr.rf B F1' σ H1 Γ1 _ _ e1' q1 (fun vs H2 ⟨F2,Γ2,ds,s2,e2,r2,q2⟩=>?_)
 exact k _ _ ⟨F2,Γ2,x.d::ds,(s1.trans s1').trans s2,e2,⟨v,vs,rfl,r1'.mono s2,r2⟩,q2⟩⟩
def IL (t3:TA3) (Γ:G) (Q:RV→G→Prop):Prop:=t3 Γ fun xs Γ1=>xs.length≤sizeLine∧Q (.fr (.lst xs)) Γ1
def Bj (t3:TA3) (Γ:G) (Q:RV→G→Prop):Prop:=t3 Γ fun xs Γ1=>xs.length≤sizeLine∧Q (.fz (.tup xs)) Γ1
theorem bR (h:P3A K X es t t3):P3 K X (.List es pos) (HI t) (IL t3):=⟨nQ h.pe,by
 intro B F σ H Γ Q QQ e q k
 refine h.rf B F σ H Γ _ _ e q (fun vs H1 ⟨F1,Γ1,ds,s1,e1,r1,q1⟩=>?_)
 exact⟨by rw[r1.length];exact q1.1,fun p hp=>k _ _ (Po.mono s1 (mS e1 hp r1 q1.2))⟩⟩
theorem bL {x1} (h:P3A K X es t t3):P3 K X (.Tuple es x1 pos) (HG t) (Bj t3):=⟨vU h.pe,by
 intro B F σ H Γ Q QQ e q k
 refine h.rf B F σ H Γ _ _ e q (fun vs H1 ⟨F1,Γ1,ds,s1,e1,r1,q1⟩=>?_)
 exact⟨by rw[r1.length];exact q1.1,fun p hp=>k _ _ (Po.mono s1 (rF e1 hp r1 q1.2))⟩⟩
end
abbrev j4:=G→(List Bo→G→Prop)→Prop
def de (K:PySem.W.Frag) (F:Hp) (σ:L2.St):List Bo→List V→Prop
 | [],vs=>vs=[]
 | b::bs,vs=>∃ v ws,vs=v::ws∧qM K F σ b v∧de K F σ bs ws
def qN (K:PySem.W.Frag) (F H:Hp):List D→List V→Prop
 | [],vs=>vs=[]
 | d::ds,vs=>∃ v ws,vs=v::ws∧i7 K F H d v∧qN K F H ds ws
def ats (Γ:G):List Bo→Option (List D)
 | []=>some []
 | b::bs=>match b.at Γ,ats Γ bs with
  | some d,some ds=>some (d::ds)
  | _,_=>none
def LJ (K:PySem.W.Frag) (B:Bs) (F:Hp) (σ:L2.St) (Q:List Bo→G→Prop):List V→Hp→Prop:=fun vs H'=>∃ F' Γ' bs,aL F F'∧En K B F' σ H' Γ'∧de K F' σ bs vs∧Q bs Γ'
def Ba (K:PySem.W.Frag) (t:TA) (t3:j4):Prop:=∀ (B:Bs) (F:Hp) (σ:L2.St) (H:Hp) (Γ:G) (Q:List Bo→G→Prop) (QQ:List V→Hp→Prop),En K B F σ H Γ→t3 Γ Q→(∀ vs H',LJ K B F σ Q vs H'→QQ vs H')→t σ H QQ
structure yK (K:PySem.W.Frag) (X:Cx) (es:List Expr) (t:TA) (t3:j4):Prop where
 pe:PA X es t
 rf:Ba K t t3
section
variable {K:PySem.W.Frag} {X:Cx} {e:Expr} {es:List Expr} {te:TE} {e3:TB3} {t:TA} {t3:j4} {pos:Pos} {B:Bs} {F H:Hp} {σ:L2.St} {Γ:G}
theorem En.bos (e:En K B F σ H Γ):∀ {bs:List Bo} {vs:List V} {ds:List D},de K F σ bs vs→ats Γ bs=some ds→qN K F H ds vs
 | [],_,_,h,q=>by cases q;exact h
 | b::bs,_,_,⟨v,ws,h1,h2,h3⟩,q=>by
  unfold ats at q
  split at q
  ·rename_i d ds hd hds
   cases q
   exact⟨v,ws,h1,e.bo h2 hd,e.bos h3 hds⟩
  ·cases q
def DA (Γ:G) (Q:List Bo→G→Prop):Prop:=Q [] Γ
def Ew (e3:TB3) (t3:j4) (Γ:G) (Q:List Bo→G→Prop):Prop:=e3 Γ fun x Γ1=>t3 Γ1 fun xs Γ2=>Q (x::xs) Γ2
theorem af:yK K X [] lA DA:=⟨el,fun B F σ H Γ Q QQ e q k=>k _ _ ⟨F,Γ,[],aL.refl F,e,rfl,q⟩⟩
theorem aa (ha:P3B K X e te e3) (hr:yK K X es t t3) (hs:starEach (e::es) X.env=(false,eval e X.env)::starEach es X.env:=by rfl):yK K X (e::es) (ip te t) (Ew e3 t3):=⟨bO ha.pe hr.pe hs,by
 intro B F σ H Γ Q QQ e q k
 refine ha.rf B F σ H Γ _ _ e q (fun v H1 ⟨F1,Γ1,x,s1,e1,r1,q1⟩=>?_)
 refine hr.rf B F1 σ H1 Γ1 _ _ e1 q1 (fun vs H2 ⟨F2,Γ2,ds,s2,e2,r2,q2⟩=>?_)
 exact k _ _ ⟨F2,Γ2,x::ds,s1.trans s2,e2,⟨v,vs,rfl,r1.mono s2,r2⟩,q2⟩⟩
def Be (K:PySem.W.Frag) (r:List V→Hp→VK→Prop) (c3:List D→TE3):Prop:=∀ (B:Bs) (F:Hp) (σ:L2.St) (H:Hp) (Γ:G) (vs:List V) (ds:List D) (Q:RV→G→Prop) (QQ:VK),En K B F σ H Γ→qN K F H ds vs→c3 ds Γ Q→(∀ v H',Po K B F σ Q v H'→QQ v H')→r vs H QQ
def yt (c3:List D→TE3) (t3:j4) (Γ:G) (Q:RV→G→Prop):Prop:=t3 Γ fun bs Γ1=>∃ ds,ats Γ1 bs=some ds∧c3 ds Γ1 Q
theorem CS {r:List V→Hp→VK→Prop} {c3:List D→TE3} (h:Be K r c3) (ha:Ba K t t3):Ref K (tCB r t) (yt c3 t3):=by
 intro B F σ H Γ Q QQ e q k
 refine ha B F σ H Γ _ _ e q (fun vs H1 ⟨F1,Γ1,bs,s1,e1,r1,ds,hd,q1⟩=>?_)
 exact h B F1 σ H1 Γ1 vs ds Q QQ e1 (e1.bos r1 hd) q1 fun v H2 p=>k _ _ (p.mono s1)
structure B3 (K:PySem.W.Frag) (X:Cx) (f:Value) (r:List V→Hp→VK→Prop) (c3:List D→TE3):Prop where
 op:eR X f r
 rf:Be K r c3
variable {x:Str} {p:Pos} {id T:String} {r:List V→Hp→VK→Prop} {c3:List D→TE3}
theorem ax (hc:B3 K X (.builtin id) r c3) (hg:Gl X x) (hm:X.mg x=none) (hv:bootBuiltins x=some (.builtin id)) (ha:yK K X (e::es) t t3) (hn:x≠"__name__":=by decide) (hdb:(x == ("__debug__":Str))=false:=by decide)
  (he:starEach (e::es) X.env=(false,eval e X.env)::starEach es X.env:=by rfl) (hpl:(backTo pos (starEach es X.env)).any (·.1)=false:=by rfl):P3 K X (.Call (.Name x p) (e::es) [] pos) (tCB r t) (yt c3 t3):=
 ⟨De hc.op hg hm hv ha.pe hn hdb he hpl,CS hc.rf ha.rf⟩
theorem iF (hc:B3 K X (.type T) r c3) (hg:Gl X x) (hm:X.mg x=none) (hv:bootBuiltins x=some (.type T)) (ha:yK K X (e::es) t t3) (hn:x≠"__name__":=by decide) (hdb:(x == ("__debug__":Str))=false:=by decide)
  (he:starEach (e::es) X.env=(false,eval e X.env)::starEach es X.env:=by rfl) (hpl:(backTo pos (starEach es X.env)).any (·.1)=false:=by rfl):P3 K X (.Call (.Name x p) (e::es) [] pos) (tCB r t) (yt c3 t3):=
 ⟨BC hc.op hg hm hv ha.pe hn hdb he hpl,CS hc.rf ha.rf⟩
def Jx (ds:List D) (Γ:G) (Q:RV→G→Prop):Prop:=match ds with
 | [.int i]=>Q (.fz (.int (if i < 0 then -i else i))) Γ
 | _=>False
def mx3 (f:Int→Int→Int) (ds:List D) (Γ:G) (Q:RV→G→Prop):Prop:=match ds with
 | [.int i,.int j]=>Q (.fz (.int (f i j))) Γ
 | _=>False
theorem qN.one {d:D} {vs:List V} (h:qN K F H [d] vs):∃ v,vs=[v]∧i7 K F H d v:=by
 obtain⟨v,ws,rfl,h1,h2⟩:=h
 cases h2
 exact⟨v,rfl,h1⟩
theorem qN.two {d e:D} {vs:List V} (h:qN K F H [d,e] vs):∃ v w,vs=[v,w]∧i7 K F H d v∧i7 K F H e w:=by
 obtain⟨v,ws,rfl,h1,h2⟩:=h
 obtain⟨w,rfl,h3⟩:=qN.one h2
 exact⟨v,w,rfl,h1,h3⟩
abbrev fmax (i j:Int):Int:=if j > i then j else i
abbrev fmin (i j:Int):Int:=if j < i then j else i
theorem EG (hc:X.calm=true):B3 K X (.builtin "max") (fun xs H Q=>∃ i j,xs=[.int i,.int j]∧Q (.int (if j > i then j else i)) H) (mx3 fmax):=⟨B8 hc,by
 intro B F σ H Γ vs ds Q QQ e r q k
 unfold mx3 at q
 split at q
 ·obtain⟨v,w,rfl,h,h'⟩:=r.two
  cases h;cases h'
  exact⟨_,_,rfl,k _ _ (iK e q)⟩
 ·exact q.elim⟩
theorem EF (hc:X.calm=true):B3 K X (.builtin "min") (fun xs H Q=>∃ i j,xs=[.int i,.int j]∧Q (.int (if j < i then j else i)) H) (mx3 fmin):=⟨B7 hc,by
 intro B F σ H Γ vs ds Q QQ e r q k
 unfold mx3 at q
 split at q
 ·obtain⟨v,w,rfl,h,h'⟩:=r.two
  cases h;cases h'
  exact⟨_,_,rfl,k _ _ (iK e q)⟩
 ·exact q.elim⟩
def wD (ds:List D) (Γ:G) (Q:RV→G→Prop):Prop:=match ds with
 | [.int i]=>Q (.fz (.int i)) Γ
 | [.bl k]=>Q (.fz (.int (if k then 1 else 0))) Γ
 | _=>False
theorem yu:B3 K X (.type "int") (fun xs H Q=>(∃ i,xs=[.int i]∧Q (.int i) H)∨∃ k,xs=[.bl k]∧Q (.int (if k then 1 else 0)) H) wD:=⟨B9,by
 intro B F σ H Γ vs ds Q QQ e r q k
 unfold wD at q
 split at q
 ·obtain⟨v,rfl,h⟩:=r.one
  cases h
  exact .inl ⟨_,rfl,k _ _ (iK e q)⟩
 ·obtain⟨v,rfl,h⟩:=r.one
  cases h
  exact .inr ⟨_,rfl,k _ _ (iK e q)⟩
 ·exact q.elim⟩
def BU:D→Option Nat
 | .lst xs=>some xs.length
 | .tup xs=>some xs.length
 | .ktup xs=>some xs.length
 | .scr ns=>some ns.length
 | _=>none
def wA (ds:List D) (Γ:G) (Q:RV→G→Prop):Prop:=match ds with
 | [.str z]=>z.length≤sizeLine∧Q (.fz (.int z.length)) Γ
 | [d]=>∃ n,BU d=some n∧Q (.fz (.int n)) Γ
 | _=>False
abbrev Ls (K:PySem.W.Frag):List V→Hp→VK→Prop:=fun xs H Q=>(∃ p ys,xs=[.ref p]∧(SqL K H p ys∨SqT K H p ys)∧Q (.int ys.length) H)∨(∃ z,xs=[.str z]∧z.length≤sizeLine∧Q (.int z.length) H)
theorem eR.or' {f:Value} {r r':List V→Hp→VK→Prop} (h:eR X f r) (h':eR X f r'):eR X f (fun xs H Q=>r xs H Q∨r' xs H Q):=by
 intro pins s σ H xs us Q I rx q
 rcases q with q | q
 ·exact h pins s σ H xs us Q I rx q
 ·exact h' pins s σ H xs us Q I rx q
theorem Gi {d:D} {v:V} {n:Nat} (s:aL F H) (h:i7 K F H d v) (hn:BU d=some n):∃ p ys,v=.ref p∧(SqL K H p ys∨SqT K H p ys)∧ys.length=n:=by
 unfold BU at hn
 split at hn
 ·cases hn
  obtain⟨p,vs,rfl,h1,h2⟩:=h
  exact⟨p,vs,rfl,.inl (SqL.of h1),h2.length⟩
 ·cases hn
  obtain⟨p,vs,rfl,h1,h2⟩:=h
  exact⟨p,vs,rfl,.inr (.inl (.inl (s _ _ h1))),h2.length⟩
 ·cases hn
  obtain⟨p,vs,rfl,h1,h2⟩:=h
  exact⟨p,vs,rfl,.inr (SqT.same s h1),h2.length⟩
 ·cases hn
  obtain⟨p,rfl,h1⟩:=h
  exact⟨p,_,rfl,.inl (s.seq h1),by simp⟩
 ·cases hn
theorem dm (hK:X.K=K):B3 K X (.builtin "len") (Ls K) wA:=⟨by subst hK;exact eR.or' w_ w9,by
 intro B F σ H Γ vs ds Q QQ e r q k
 unfold wA at q
 split at q
 ·obtain⟨v,rfl,h⟩:=r.one
  cases h
  exact .inr ⟨_,rfl,q.1,k _ _ (iK e q.2)⟩
 ·obtain⟨v,rfl,h⟩:=r.one
  obtain⟨n,hn,q⟩:=q
  obtain⟨p,ys,rfl,hs,hl⟩:=Gi e.sub h hn
  subst hl
  exact .inl ⟨p,ys,rfl,hs,k _ _ (iK e q)⟩
 ·exact q.elim⟩
end
end L3
namespace L3
open PySem L2 PySem.Spec
section
variable {K:PySem.W.Frag} {X:Cx} {a b c:Expr} {ta tb tc:TE} {a3 b3 c3:TB3} {pos:Pos} {B:Bs} {F H:Hp} {σ:L2.St} {Γ:G}
theorem aF.atI {xs:List D} {vs:List V} (h:aF K F xs vs) {i:Int} {d:D} (e:atI xs i=some d):∃ v,L2.atI vs i=some v∧Rep K F d v:=by
 unfold L2.atI at e ⊢
 rw[h.length]
 cases q:ixN xs.length i with
 | none=>rw[q] at e;cases e
 | some j=>
  rw[q] at e
  exact h.get e
def ix3 (x y:D) (Γ:G) (Q:RV→G→Prop):Prop:=match x,y with
 | .lst xs,.int i=>∃ d,atI xs i=some d∧Q (.fz d) Γ
 | .tup xs,.int i=>∃ d,atI xs i=some d∧Q (.fz d) Γ
 | .ktup xs,.int i=>∃ d,atI xs i=some d∧Q (.fz d) Γ
 | .scr ns,.int i=>∃ n,atI ns i=some n∧Q (.fz (.int n)) Γ
 | .str z,.int i=>z.length≤sizeLine∧∃ c,atI z.cps.toList i=some c∧Q (.fz (.str ⟨#[c]⟩)) Γ
 | _,_=>False
theorem A9 {α β:Type} {f:α→β} {xs:List α} {i:Int} {d:α} (e:atI xs i=some d):atI (xs.map f) i=some (f d):=by
 unfold L2.atI at e ⊢
 rw[List.length_map]
 cases q:ixN xs.length i with
 | none=>rw[q] at e;cases e
 | some j=>
  rw[q] at e
  show (xs.map f)[j]?=_
  rw[List.getElem?_map,show xs[j]?=some d from e]
  rfl
theorem Kv:kU K (rIx K) ix3:=by
 intro B F σ H Γ x y dx dy Q QQ e rx ry q k
 unfold ix3 at q
 split at q
 ·obtain⟨d,hd,q⟩:=q
  obtain⟨p,vs,rfl,h1,h2⟩:=rx
  cases ry
  obtain⟨v,hv,r⟩:=h2.atI hd
  exact .inl ⟨p,vs,_,v,rfl,rfl,SqL.of h1,hv,k _ _ (kN e r q)⟩
 ·obtain⟨d,hd,q⟩:=q
  obtain⟨p,vs,rfl,h1,h2⟩:=rx
  cases ry
  obtain⟨v,hv,r⟩:=h2.atI hd
  exact .inr (.inl ⟨p,vs,_,v,rfl,rfl,.inl (.inl (e.sub _ _ h1)),hv,k _ _ (kN e r q)⟩)
 ·obtain⟨d,hd,q⟩:=q
  obtain⟨p,vs,rfl,h1,h2⟩:=rx
  cases ry
  obtain⟨v,hv,r⟩:=h2.atI hd
  exact .inr (.inl ⟨p,vs,_,v,rfl,rfl,SqT.same e.sub h1,hv,k _ _ (kN e r q)⟩)
 ·obtain⟨d,hd,q⟩:=q
  obtain⟨p,rfl,h1⟩:=rx
  cases ry
  exact .inl ⟨p,_,_,.int d,rfl,rfl,e.sub.seq h1,A9 hd,k _ _ (iK e q)⟩
 ·cases rx;cases ry
  obtain⟨hz,c,hc,q⟩:=q
  exact .inr (.inr ⟨_,_,c,rfl,rfl,hz,hc,k _ _ (sj e q)⟩)
 ·exact q.elim
theorem bz (hK:X.K=K) (ha:P3B K X a ta a3) (hb:P3B K X b tb b3) (hs:Bb b):P3 K X (.Subscript a b pos) (tOp (rIx K) ta tb) (oE ix3 a3 b3):=⟨Kc (by subst hK;exact I9) ha.pe hb.pe hs,iJ Kv ha.rf hb.rf⟩
def cut {α:Type} (xs:List α) (lo hi:Option Int):List α:=(xs.drop (HT.sIx xs.length 0 lo)).take (HT.sIx xs.length xs.length hi - HT.sIx xs.length 0 lo)
def pk {α:Type} (xs:List α) (lo hi st:Option Int):List α:=(sliceRange (sliceBounds lo hi st xs.length).1 (sliceBounds lo hi st xs.length).2.1 (sliceBounds lo hi st xs.length).2.2).filterMap (xs[·]?)
theorem aF.cut {xs:List D} {vs:List V} (h:aF K F xs vs) (lo hi:Option Int):aF K F (cut xs lo hi) (yo vs lo hi):=by
 unfold L3.cut yo
 rw[h.length]
 exact(h.drop _).take _
theorem aF.places {xs:List D} {vs:List V} (h:aF K F xs vs):∀ js:List Nat,aF K F (js.filterMap (xs[·]?)) (js.filterMap (vs[·]?))
 | []=>rfl
 | j::js=>by
  have ih:=h.places js
  cases hn:xs[j]? with
  | some x=>
   obtain⟨u,hu,r⟩:=h.get hn
   simp only[List.filterMap_cons,hn,hu]
   exact⟨u,_,rfl,r,ih⟩
  | none=>
   have hv:vs[j]?=none:=by
    rw[List.getElem?_eq_none_iff] at hn ⊢
    rw[h.length];exact hn
   simp only[List.filterMap_cons,hn,hv]
   exact ih
theorem aF.pk {xs:List D} {vs:List V} (h:aF K F xs vs) (lo hi st:Option Int):aF K F (pk xs lo hi st) (lJ vs lo hi st):=by
 unfold L3.pk lJ
 rw[h.length]
 exact h.places _
abbrev TO3:=G→(Option Int→G→Prop)→Prop
def LI (K:PySem.W.Frag) (t:TO) (t3:TO3):Prop:=∀ (B:Bs) (F:Hp) (σ:L2.St) (H:Hp) (Γ:G) (Q:Option Int→G→Prop) (QQ:Option Int→Hp→Prop),En K B F σ H Γ→t3 Γ Q→(∀ o H',(∃ F' Γ',aL F F'∧En K B F' σ H' Γ'∧Q o Γ')→QQ o H')→t σ H QQ
structure P3O (K:PySem.W.Frag) (X:Cx) (e:Option Expr) (t:TO) (t3:TO3):Prop where
 pe:PO X e t
 rf:LI K t t3
def Dz (Γ:G) (Q:Option Int→G→Prop):Prop:=Q none Γ
def CA (a3:TB3) (Γ:G) (Q:Option Int→G→Prop):Prop:=a3 Γ fun x Γ1=>∃ i,x.at Γ1=some (.int i)∧Q (some i) Γ1
theorem gU:P3O K X none Ah Dz:=⟨Fy,fun B F σ H Γ Q QQ e q k=>k _ _ ⟨F,Γ,aL.refl F,e,q⟩⟩
theorem dQ (h:P3B K X a ta a3):P3O K X (some a) (G2 ta) (CA a3):=⟨Fx h.pe,by
 intro B F σ H Γ Q QQ e q k
 refine h.rf B F σ H Γ _ _ e q (fun v H1 ⟨F1,Γ1,x,s1,e1,r1,i,h1,q1⟩=>?_)
 have:v=.int i:=e1.bo r1 h1
 exact⟨i,this,k _ _ ⟨F1,Γ1,s1,e1,q1⟩⟩⟩
def sl3 (a3:TB3) (l3 h3:TO3) (Γ:G) (Q:RV→G→Prop):Prop:=a3 Γ fun x Γ1=>l3 Γ1 fun lo Γ2=>h3 Γ2 fun hi Γ3=>∃ xs,x.at Γ3=some (.lst xs)∧Q (.fr (.lst (cut xs lo hi))) Γ3
theorem Dh {lo hi:Option Expr} {tl th:TO} {l3 h3:TO3} {p2:Pos} (hK:X.K=K) (ha:P3B K X a ta a3) (hl:P3O K X lo tl l3) (hh:P3O K X hi th h3):P3 K X (.Subscript a (.Slice lo hi none p2) pos) (tSl (JZ K) ta tl th) (sl3 a3 l3 h3):=
 ⟨so (by subst hK;exact E8) ha.pe hl.pe hh.pe,by
 intro B F σ H Γ Q QQ e q k
 refine ha.rf B F σ H Γ _ _ e q (fun v H1 ⟨F1,Γ1,x,s1,e1,r1,q1⟩=>?_)
 refine hl.rf B F1 σ H1 Γ1 _ _ e1 q1 (fun lo H2 ⟨F2,Γ2,s2,e2,q2⟩=>?_)
 refine hh.rf B F2 σ H2 Γ2 _ _ e2 q2 (fun hi H3 ⟨F3,Γ3,s3,e3,xs,h3,q3⟩=>?_)
 obtain⟨p,vs,rfl,h4,h5⟩:=e3.bo (r1.mono (s2.trans s3)) h3
 exact⟨p,vs,rfl,SqL.of h4,fun l hl=>k _ _ (Po.mono ((s1.trans s2).trans s3) (mS e3 hl (h5.cut lo hi) q3))⟩⟩
def E9 (a3:TB3) (l3 h3:TO3) (Γ:G) (Q:RV→G→Prop):Prop:=a3 Γ fun x Γ1=>l3 Γ1 fun lo Γ2=>h3 Γ2 fun hi Γ3=>∃ xs,x.at Γ3=some (.tup xs)∧¬ (HT.sIx xs.length 0 lo=0∧HT.sIx xs.length xs.length hi=xs.length)∧Q (.fz (.tup (cut xs lo hi))) Γ3
theorem BE {lo hi:Option Expr} {tl th:TO} {l3 h3:TO3} {p2:Pos} (hK:X.K=K) (ha:P3B K X a ta a3) (hl:P3O K X lo tl l3) (hh:P3O K X hi th h3):P3 K X (.Subscript a (.Slice lo hi none p2) pos) (tSl (JX K) ta tl th) (E9 a3 l3 h3):=
 ⟨so (by subst hK;exact HL) ha.pe hl.pe hh.pe,by
 intro B F σ H Γ Q QQ e q k
 refine ha.rf B F σ H Γ _ _ e q (fun v H1 ⟨F1,Γ1,x,s1,e1,r1,q1⟩=>?_)
 refine hl.rf B F1 σ H1 Γ1 _ _ e1 q1 (fun lo H2 ⟨F2,Γ2,s2,e2,q2⟩=>?_)
 refine hh.rf B F2 σ H2 Γ2 _ _ e2 q2 (fun hi H3 ⟨F3,Γ3,s3,e3,xs,h3,hn,q3⟩=>?_)
 obtain⟨p,vs,rfl,h4,h5⟩:=e3.bo (r1.mono (s2.trans s3)) h3
 exact⟨p,vs,rfl,.inl (.inl (e3.sub _ _ h4)),by rw[h5.length];exact hn,fun l hl=>k _ _ (Po.mono ((s1.trans s2).trans s3) (rF e3 hl (h5.cut lo hi) q3))⟩⟩
def E_ (a3:TB3) (l3 h3 s3:TO3) (Γ:G) (Q:RV→G→Prop):Prop:=a3 Γ fun x Γ1=>l3 Γ1 fun lo Γ2=>h3 Γ2 fun hi Γ3=>s3 Γ3 fun st Γ4=>st≠some 0∧∃ xs,x.at Γ4=some (.lst xs)∧Q (.fr (.lst (pk xs lo hi st))) Γ4
theorem mT {lo hi:Option Expr} {st:Expr} {tl th ts:TO} {l3 h3 s3:TO3} {p2:Pos} (hK:X.K=K) (ha:P3B K X a ta a3) (hl:P3O K X lo tl l3) (hh:P3O K X hi th h3) (hs:P3O K X (some st) ts s3):P3 K X (.Subscript a (.Slice lo hi (some st) p2) pos) (JE K ta tl th ts) (E_ a3 l3 h3 s3):=
 ⟨by subst hK;exact BA ha.pe hl.pe hh.pe hs.pe,by
 intro B F σ H Γ Q QQ e q k
 refine ha.rf B F σ H Γ _ _ e q (fun v H1 ⟨F1,Γ1,x,s1,e1,r1,q1⟩=>?_)
 refine hl.rf B F1 σ H1 Γ1 _ _ e1 q1 (fun lo H2 ⟨F2,Γ2,s2,e2,q2⟩=>?_)
 refine hh.rf B F2 σ H2 Γ2 _ _ e2 q2 (fun hi H3 ⟨F3,Γ3,s3,e3,q3⟩=>?_)
 refine hs.rf B F3 σ H3 Γ3 _ _ e3 q3 (fun st H4 ⟨F4,Γ4,s4,e4,hst,xs,h4,q4⟩=>?_)
 obtain⟨p,vs,rfl,h5,h6⟩:=e4.bo (r1.mono ((s2.trans s3).trans s4)) h4
 exact⟨hst,p,vs,rfl,SqL.of h5,fun l hl=>k _ _ (Po.mono (((s1.trans s2).trans s3).trans s4) (mS e4 hl (h6.pk lo hi st) q4))⟩⟩
def nZ:D→Option (List D)
 | .lst xs=>some xs
 | .tup xs=>some xs
 | .ktup xs=>some xs
 | .scr ns=>some (ns.map .int)
 | _=>none
theorem BX {d:D} {v:V} {xs:List D} (s:aL F H) (h:i7 K F H d v) (hn:nZ d=some xs):∃ p ys,v=.ref p∧(SqL K H p ys∨SqT K H p ys)∧aF K F xs ys:=by
 unfold nZ at hn
 split at hn
 ·cases hn
  obtain⟨p,vs,rfl,h1,h2⟩:=h
  exact⟨p,vs,rfl,.inl (SqL.of h1),h2⟩
 ·cases hn
  obtain⟨p,vs,rfl,h1,h2⟩:=h
  exact⟨p,vs,rfl,.inr (.inl (.inl (s _ _ h1))),h2⟩
 ·cases hn
  obtain⟨p,vs,rfl,h1,h2⟩:=h
  exact⟨p,vs,rfl,.inr (SqT.same s h1),h2⟩
 ·cases hn
  obtain⟨p,rfl,h1⟩:=h
  exact⟨p,_,rfl,.inl (s.seq h1),aF.ints _⟩
 ·cases hn
def DQ (ds:List D) (Γ:G) (Q:RV→G→Prop):Prop:=match ds with
 | [d]=>∃ xs,nZ d=some xs∧Q (.fr (.lst xs)) Γ
 | _=>False
def rO (ds:List D) (Γ:G) (Q:RV→G→Prop):Prop:=match ds with
 | [.lst xs]=>Q (.fz (.tup xs)) Γ
 | _=>False
theorem GF (hK:X.K=K):B3 K X (.type "tuple") (fun xs H Q=>∃ p ys,xs=[.ref p]∧((SqL K H p ys∧∀ l,H l=none→Q (.ref l) (upd H l (.tup ys)))∨(SqT K H p ys∧Q (.ref p) H))) rO:=⟨by subst hK;exact uo,by
 intro B F σ H Γ vs ds Q QQ e r q k
 unfold rO at q
 split at q
 ·obtain⟨v,rfl,p,ys,rfl,h1,h2⟩:=r.one
  exact⟨p,ys,rfl,.inl ⟨SqL.of h1,fun l hf=>k _ _ (rF e hf h2 q)⟩⟩
 ·exact q.elim⟩
def knD:D→Bool
 | .non=>true | .bl _=>true | .int _=>true | .str _=>true | .lst _=>true | .tup _=>true | _=>false
theorem IT {d:D} {v:V} (s:aL F H) (h:i7 K F H d v) (hk:knD d=true):Kn H v:=by
 unfold knD at hk
 split at hk
 ·cases h;exact .non
 ·cases h;exact .bl _
 ·cases h;exact .int _
 ·cases h;exact .str _
 ·obtain⟨p,vs,rfl,h1,_⟩:=h;exact .lst h1
 ·obtain⟨p,vs,rfl,h1,_⟩:=h;exact .tup (s _ _ h1)
 ·cases hk
def dB:D→Bool
 | .bl _=>true | _=>false
def dI:D→Bool
 | .bl _=>true | .int _=>true | _=>false
def dL:D→Bool
 | .lst _=>true | _=>false
def dT:D→Bool
 | .tup _=>true | _=>false
def is3 (t:String) (f:D→Bool) (ds:List D) (Γ:G) (Q:RV→G→Prop):Prop:=match ds with
 | [d,.ty t']=>t'=t∧knD d=true∧Q (.fz (.bl (f d))) Γ
 | _=>False
theorem EH {t:String} {f:D→Bool} {g:Hp→V→Bool} (h:eR X (.builtin "isinstance") (fun xs H Q=>∃ x,xs=[x,.ty t]∧Kn H x∧Q (.bl (g H x)) H))
  (hg:∀ {F H:Hp} {d:D} {v:V},aL F H→i7 K F H d v→knD d=true→g H v=f d):B3 K X (.builtin "isinstance") (fun xs H Q=>∃ x,xs=[x,.ty t]∧Kn H x∧Q (.bl (g H x)) H) (is3 t f):=⟨h,by
 intro B F σ H Γ vs ds Q QQ e r q k
 unfold is3 at q
 split at q
 ·obtain⟨v,w,rfl,h1,h2⟩:=r.two
  obtain⟨rfl,hk,q⟩:=q
  cases h2
  exact⟨v,rfl,IT e.sub h1 hk,by rw[hg e.sub h1 hk];exact k _ _ (qx e q)⟩
 ·exact q.elim⟩
theorem HA (T:iD X.K):B3 K X (.builtin "isinstance") (fun xs H Q=>∃ x,xs=[x,.ty "bool"]∧Kn H x∧Q (.bl (isB x)) H) (is3 "bool" dB):=EH (g:=fun _ v=>isB v) (EC T) fun s h hk=>by
 unfold knD at hk
 split at hk
 ·cases h;rfl
 ·cases h;rfl
 ·cases h;rfl
 ·cases h;rfl
 ·obtain⟨p,vs,rfl,h1,_⟩:=h;rfl
 ·obtain⟨p,vs,rfl,h1,_⟩:=h;rfl
 ·cases hk
theorem Hz (T:iD X.K):B3 K X (.builtin "isinstance") (fun xs H Q=>∃ x,xs=[x,.ty "int"]∧Kn H x∧Q (.bl (isI x)) H) (is3 "int" dI):=EH (g:=fun _ v=>isI v) (EB T) fun s h hk=>by
 unfold knD at hk
 split at hk
 ·cases h;rfl
 ·cases h;rfl
 ·cases h;rfl
 ·cases h;rfl
 ·obtain⟨p,vs,rfl,h1,_⟩:=h;rfl
 ·obtain⟨p,vs,rfl,h1,_⟩:=h;rfl
 ·cases hk
theorem K2 (T:iD X.K):B3 K X (.builtin "isinstance") (fun xs H Q=>∃ x,xs=[x,.ty "list"]∧Kn H x∧Q (.bl (isL H x)) H) (is3 "list" dL):=EH (EA T) fun s h hk=>by
 unfold knD at hk
 split at hk
 ·cases h;rfl
 ·cases h;rfl
 ·cases h;rfl
 ·cases h;rfl
 ·obtain⟨p,vs,rfl,h1,_⟩:=h;exact AQ h1
 ·obtain⟨p,vs,rfl,h1,_⟩:=h;exact AO (s _ _ h1)
 ·cases hk
theorem K1 (T:iD X.K):B3 K X (.builtin "isinstance") (fun xs H Q=>∃ x,xs=[x,.ty "tuple"]∧Kn H x∧Q (.bl (isT H x)) H) (is3 "tuple" dT):=EH (Ey T) fun s h hk=>by
 unfold knD at hk
 split at hk
 ·cases h;rfl
 ·cases h;rfl
 ·cases h;rfl
 ·cases h;rfl
 ·obtain⟨p,vs,rfl,h1,_⟩:=h;exact AN h1
 ·obtain⟨p,vs,rfl,h1,_⟩:=h;exact AM (s _ _ h1)
 ·cases hk
def ES (ds:List D) (Γ:G) (Q:RV→G→Prop):Prop:=match ds with
 | [.lst xs]=>∃ bs:List Bool,xs=bs.map .bl∧Q (.fz (.bl (bs.all id))) Γ
 | _=>False
theorem aF.A5:∀ {bs:List Bool} {vs:List V},aF K F (bs.map D.bl) vs→vs=bs.map V.bl
 | [],_,h=>h
 | n::ns,_,⟨v,ws,h1,h2,h3⟩=>by
  rw[h1,aF.A5 h3]
  have:v=.bl n:=h2
  rw[this];rfl
theorem K3 (hK:X.K=K) (hc:X.calm=true):B3 K X (.builtin "all") (fun xs H Q=>∃ (p:Addr) (bs:List Bool),xs=[.ref p]∧SqL K H p (bs.map V.bl)∧Q (.bl (bs.all id)) H) ES:=⟨by subst hK;exact B_ hc,by
 intro B F σ H Γ vs ds Q QQ e r q k
 unfold ES at q
 split at q
 ·obtain⟨bs,rfl,q⟩:=q
  obtain⟨v,rfl,p,ys,rfl,h1,h2⟩:=r.one
  exact⟨p,bs,rfl,SqL.of (by rw[h1,h2.A5]),k _ _ (qx e q)⟩
 ·exact q.elim⟩
def flD:D→Bool
 | .non=>true | .bl _=>true | .int _=>true | .str _=>true | _=>false
def toV:D→V
 | .bl b=>.bl b | .int i=>.int i | .str x=>.str x | _=>.non
theorem Ht {d:D} {v:V} (h:i7 K F H d v) (hk:flD d=true):v=toV d∧nF v=true:=by
 unfold flD at hk
 split at hk
 ·cases h;exact⟨rfl,rfl⟩
 ·cases h;exact⟨rfl,rfl⟩
 ·cases h;exact⟨rfl,rfl⟩
 ·cases h;exact⟨rfl,rfl⟩
 ·cases hk
theorem Hs (s:aL F H):∀ {xs:List D} {vs:List V},aF K F xs vs→xs.all flD=true→vs=xs.map toV∧vs.all nF=true
 | [],_,h,_=>by cases h;exact⟨rfl,rfl⟩
 | x::xs,_,⟨v,ws,h1,h2,h3⟩,hk=>by
  rw[List.all_cons,Bool.and_eq_true] at hk
  obtain⟨a,b⟩:=Hs s h3 hk.2
  obtain⟨c,d⟩:=Ht (Rep.b s h2) hk.1
  subst h1 a c
  refine⟨rfl,?_⟩
  rw[List.all_cons,d,b];rfl
def in3 (neg:Bool) (x y:D) (Γ:G) (Q:RV→G→Prop):Prop:=∃ xs,nZ y=some xs∧flD x=true∧xs.all flD=true∧Q (.fz (.bl (if neg then !inV (toV x) (xs.map toV) else inV (toV x) (xs.map toV)))) Γ
theorem Kw (neg:Bool):kU K (rIn K neg) (in3 neg):=by
 intro B F σ H Γ x y dx dy Q QQ e rx ry q k
 obtain⟨xs,hn,f1,f2,q⟩:=q
 obtain⟨p,ys,rfl,hs,hl⟩:=BX e.sub ry hn
 obtain⟨a,b⟩:=Hs e.sub hl f2
 obtain⟨c,d⟩:=Ht rx f1
 subst a c
 exact⟨p,_,rfl,hs,d,b,k _ _ (qx e q)⟩
theorem qH (hK:X.K=K):C3 K X .In (rIn K false) (in3 false):=⟨by subst hK;exact BF,Kw false⟩
def Mp (f:Str) (x:D) (Γ:G) (Q:RV→G→Prop):Prop:=match x with
 | .ins C ns xs=>∃ d,(ns.zip xs).lookup f=some d∧Q (.fz d) Γ
 | _=>False
theorem aF.lookup:∀ {ns:List Str} {xs:List D} {gs:List (Str×V)} {f:Str} {d:D},gs.map (·.1)=ns→aF K F xs (gs.map (·.2))→(ns.zip xs).lookup f=some d→∃ v,gs.lookup f=some v∧Rep K F d v
 | [],_,[],f,d,_,_,h=>by simp at h
 | n::ns,xs,(m,u)::gs,f,d,h1,h2,h3=>by
  simp only[List.map_cons,List.cons.injEq] at h1
  obtain⟨rfl,h1⟩:=h1
  cases xs with
  | nil=>simp at h3
  | cons x xs=>
   obtain⟨v,ws,e,r,h2⟩:=h2
   simp only[List.map_cons,List.cons.injEq] at e
   obtain⟨rfl,rfl⟩:=e
   rw[List.zip_cons_cons,List.lookup_cons] at h3
   rw[List.lookup_cons]
   cases q:f == m with
   | true=>rw[q] at h3;cases h3;exact⟨_,rfl,r⟩
   | false=>rw[q] at h3;exact aF.lookup h1 h2 h3
end
end L3
namespace L3
open PySem L2 PySem.Spec
structure E3 where
 nx:G→Prop
 rt:RV→G→Prop
 bk:G→Prop:=fun _=>False
 ct:G→Prop:=fun _=>False
abbrev TS3:=E3→G→Prop
structure Bd (K:PySem.W.Frag) (B:Bs) (F:Hp) (D:Ends) (D3:E3):Prop where
 nx:∀ F' σ' H' Γ',aL F F'→En K B F' σ' H' Γ'→D3.nx Γ'→D.nx σ' H'
 rt:∀ F' σ' H' Γ' v r,aL F F'→En K B F' σ' H' Γ'→mJ K B F' σ' H' Γ' v r→D3.rt r Γ'→D.rt v H'
 bk:∀ F' σ' H' Γ',aL F F'→En K B F' σ' H' Γ'→D3.bk Γ'→D.bk σ' H'
 ct:∀ F' σ' H' Γ',aL F F'→En K B F' σ' H' Γ'→D3.ct Γ'→D.ct σ' H'
theorem Bd.mono {K:PySem.W.Frag} {B:Bs} {F F1:Hp} {D:Ends} {D3:E3} (h:Bd K B F D D3) (s:aL F F1):Bd K B F1 D D3:=
 ⟨fun F' σ' H' Γ' s'=>h.nx F' σ' H' Γ' (s.trans s'),fun F' σ' H' Γ' v r s'=>h.rt F' σ' H' Γ' v r (s.trans s'),fun F' σ' H' Γ' s'=>h.bk F' σ' H' Γ' (s.trans s'),fun F' σ' H' Γ' s'=>h.ct F' σ' H' Γ' (s.trans s')⟩
def GZ (K:PySem.W.Frag) (t:TS) (t3:TS3):Prop:=∀ (B:Bs) (F:Hp) (σ:L2.St) (H:Hp) (Γ:G) (D:Ends) (D3:E3),En K B F σ H Γ→Bd K B F D D3→t3 D3 Γ→t D σ H
structure P3S (K:PySem.W.Frag) (X:Cx) (st:Stmt) (t:TS) (t3:TS3):Prop where
 pe:PS X st t
 rf:GZ K t t3
structure yJ (K:PySem.W.Frag) (X:Cx) (st:List Stmt) (t:TS) (t3:TS3):Prop where
 pe:PSs X st t
 rf:GZ K t t3
section
variable {K:PySem.W.Frag} {X:Cx} {B:Bs} {F H:Hp} {σ:L2.St} {Γ:G} {pos:Pos}
def dW (Γ:G) (i:Nat):Prop:=match Γ[i]? with
 | some (some (.ln _))=>False
 | some _=>True
 | none=>False
theorem sX {i:Nat} (h:dW Γ i):i < Γ.length:=by
 unfold dW at h
 split at h
 ·exact h.elim
 ·rename_i q
  exact(List.getElem?_eq_some_iff.mp q).1
 ·exact h.elim
theorem ba {α:Type} {l:List α} {i:Nat} {a:α} (h:i < l.length):(l.set i a)[i]?=some a:=by
 rw[List.getElem?_set,if_pos rfl,if_pos h]
theorem En.set (e:En K B F σ H Γ) {i:Nat} (hi:dW Γ i) {v:V}:∀ {r:RV},mJ K B F σ H Γ v r→En K B F (σ.set i (some v)) H (Γ.set i (some r.sl)):=fun {r} hr=>by
 have il:=sX hi
 have is:i < σ.length:=by rw[e.len];exact il
 have nl:∀ d,Γ[i]?≠some (some (Sl.ln d)):=fun d q=>by unfold dW at hi;rw[q] at hi;exact hi
 have ne:∀ {j:Nat},j≠i→(Γ.set i (some r.sl))[j]?=Γ[j]?∧(σ.set i (some v))[j]?=σ[j]?:=fun h=>⟨dJ (Ne.symm h),dJ (Ne.symm h)⟩
 have hld:∀ {j x},Hld (Γ.set i (some r.sl)) j x→(j=i∧r=.fr x)∨(j≠i∧Hld Γ j x):=fun {j x} q=>by
  by_cases z:j=i
  ·subst z
   left
   refine⟨rfl,?_⟩
   rcases q with q | q <;> rw[ba il] at q <;> cases r <;> cases q <;> rfl
  ·right
   exact⟨z,by unfold Hld at q ⊢;rw[(ne z).1] at q;exact q⟩
 refine⟨e.sub,by rw[List.length_set,List.length_set];exact e.len,?_,?_,?_,?_,?_,?_,e.keep,e.new,e.rest,e.dom⟩
 ·intro j d q
  by_cases z:j=i
  ·subst z
   rw[ba il] at q
   cases r with
   | fz x=>cases q;exact⟨v,ba is,hr⟩
   | fr x=>cases q
  ·rw[(ne z).1] at q
   rw[(ne z).2]
   exact e.fz j d q
 ·intro j d q
  rcases hld q with ⟨rfl,rfl⟩ | ⟨z,q⟩
  ·obtain⟨p,rfl,h1,h2,h3,h4⟩:=hr
   exact⟨p,ba is,h1,h2⟩
  ·rw[(ne z).2]
   exact e.hl j d q
 ·intro j d p q a
  rcases hld (.inl q) with ⟨rfl,rfl⟩ | ⟨z,_⟩
  ·obtain⟨p',rfl,h1,h2,h3,h4⟩:=hr
   rw[ba is] at a;cases a
   exact h3
  ·rw[(ne z).1] at q
   rw[(ne z).2] at a
   exact e.ow j d p q a
 ·intro j d p q a
  rcases hld (.inr q) with ⟨rfl,rfl⟩ | ⟨z,_⟩
  ·rw[ba il] at q;cases q
  ·rw[(ne z).1] at q
   rw[(ne z).2] at a
   exact e.ln j d p q a
 ·intro j k d d' p q1 q2 a1 a2
  rcases hld q1 with ⟨rfl,rfl⟩ | ⟨z1,w1⟩
  ·rcases hld q2 with ⟨rfl,h⟩ | ⟨z2,w2⟩
   ·rfl
   ·obtain⟨p',rfl,h1,h2,h3,h4⟩:=hr
    rw[ba is] at a1;cases a1
    rw[(ne z2).2] at a2
    exact absurd a2 (h4 k _ w2)
  ·rcases hld q2 with ⟨rfl,h⟩ | ⟨z2,w2⟩
   ·subst h
    obtain⟨p',rfl,h1,h2,h3,h4⟩:=hr
    rw[ba is] at a2;cases a2
    rw[(ne z1).2] at a1
    exact absurd a1 (h4 j _ w1)
   ·rw[(ne z1).2] at a1
    rw[(ne z2).2] at a2
    exact e.dis j k d d' p w1 w2 a1 a2
 ·intro j p q
  obtain⟨a,d,b⟩:=e.par j p q
  have z:j≠i:=fun z=>by subst z;exact nl d b
  rw[(ne z).1,(ne z).2]
  exact⟨a,d,b⟩
theorem En.forget (e:En K B F σ H Γ) {i:Nat} (hi:dW Γ i):En K B F σ H (Γ.set i none):=by
 have nl:∀ d,Γ[i]?≠some (some (Sl.ln d)):=fun d q=>by unfold dW at hi;rw[q] at hi;exact hi
 have il:=sX hi
 have ne:∀ {j:Nat} {s:Sl},(Γ.set i none)[j]?=some (some s)→j≠i∧Γ[j]?=some (some s):=fun {j s} q=>by
  by_cases z:j=i
  ·subst z;rw[ba il] at q;cases q
  ·exact⟨z,by rw[dJ (Ne.symm z)] at q;exact q⟩
 have hld:∀ {j x},Hld (Γ.set i none) j x→Hld Γ j x:=fun q=>q.imp (fun q=>(ne q).2) (fun q=>(ne q).2)
 exact⟨e.sub,by rw[List.length_set];exact e.len,fun j d q=>e.fz j d (ne q).2,fun j d q=>e.hl j d (hld q),fun j d p q=>e.ow j d p (ne q).2,fun j d p q=>e.ln j d p (ne q).2,fun j k d d' p q1 q2=>e.dis j k d d' p (hld q1) (hld q2),
  fun j p q=>by
   obtain⟨a,d,b⟩:=e.par j p q
   have z:i≠j:=fun z=>by subst z;exact nl d b
   exact⟨a,d,by rw[dJ z];exact b⟩,e.keep,e.new,e.rest,e.dom⟩
def Bn (i:Nat) (Γ:G) (Q:RV→G→Prop):Prop:=match Γ[i]? with
 | some (some (.fz d))=>Q (.fz d) Γ
 | some (some (.ow d))=>Q (.fr d) (Γ.set i none)
 | _=>False
theorem HX (i:Nat):Ref K (dO i) (Bn i):=by
 intro B F σ H Γ Q QQ e h k
 unfold Bn at h
 split at h
 ·rename_i d q
  obtain⟨v,h1,h2⟩:=e.fz i d q
  exact⟨v,h1,k _ _ (kN e h2 h)⟩
 ·rename_i d q
  obtain⟨p,h1,h2,h3⟩:=e.hl i d (.inl q)
  have hf:dW Γ i:=by unfold dW;rw[q];trivial
  have e':=e.forget hf
  refine⟨_,h1,k _ _ ⟨F,_,.fr d,aL.refl F,e',⟨p,rfl,h2,h3,e.ow i d p q h1,fun j x hj=>?_⟩,h⟩⟩
  intro a
  have hj':j≠i∧Hld Γ j x:=by
   by_cases z:j=i
   ·subst z
    rcases hj with hj | hj <;> rw[ba (sX hf)] at hj <;> cases hj
   ·exact⟨z,by unfold Hld at hj ⊢;rw[dJ (Ne.symm z)] at hj;exact hj⟩
  exact hj'.1 (e.dis j i x d p hj'.2 (.inl q) a h1)
 ·exact h.elim
theorem pR (i:Nat) {x:Str} {pos:Pos} (hN:X.N[i]?=some x:=by rfl) (hv:Vis X.env.scope x:=by first | exact Or.inl rfl | exact Or.inr (Or.inl rfl) | exact Or.inr (Or.inr rfl)) (hd:(x == ("__debug__":Str))=false:=by decide)
  (hcd:(x == ("__classdict__":Str))=false:=by decide):P3 K X (.Name x pos) (dO i) (Bn i):=⟨y_ hN hv hd hcd,HX i⟩
variable {st:Stmt} {rest:List Stmt} {t u:TS} {t3 u3:TS3} {e:Expr} {te:TE} {e3:TE3}
def DB (D:E3) (Γ:G):Prop:=D.nx Γ
def HP (t u:TS3) (D:E3) (Γ:G):Prop:=t { D with nx:=u D } Γ
def HV (e3:TE3) (D:E3) (Γ:G):Prop:=e3 Γ D.rt
def Ep (e3:TE3) (D:E3) (Γ:G):Prop:=e3 Γ fun _ Γ1=>D.nx Γ1
theorem a_:yJ K X [] G4 DB:=⟨Ft,fun B F σ H Γ D D3 e k q=>k.nx F σ H Γ (aL.refl F) e q⟩
theorem aj (h1:P3S K X st t t3) (h2:yJ K X rest u u3):yJ K X (st::rest) (JF t u) (HP t3 u3):=⟨C2 h1.pe h2.pe,fun B F σ H Γ D D3 e k q=>
 h1.rf B F σ H Γ _ { D3 with nx:=u3 D3 } e ⟨fun F' σ' H' Γ' s e' q'=>h2.rf B F' σ' H' Γ' _ D3 e' (k.mono s) q',k.rt,k.bk,k.ct⟩ q⟩
theorem ak (h1:P3S K X st t t3):yJ K X [st] t t3:=⟨Fs h1.pe,h1.rf⟩
theorem aw (h:P3 K X e te e3):P3S K X (.Return (some e) pos) (JG te) (HV e3):=⟨Ib h.pe,fun B F σ H Γ D D3 e k q=>
 h.rf B F σ H Γ _ _ e q fun v H' ⟨F',Γ',r,s,e',rv,q'⟩=>k.rt F' σ H' Γ' v r s e' rv q'⟩
theorem bN (h:P3 K X e te e3) (hs:swapsWith e none pos.line X.env=pure false:=by rfl):P3S K X (.Expr e pos) (G5 te) (Ep e3):=⟨Fu h.pe hs,fun B F σ H Γ D D3 e k q=>
 h.rf B F σ H Γ _ _ e q fun v H' ⟨F',Γ',r,s,e',rv,q'⟩=>k.nx F' σ H' Γ' s e' q'⟩
def Gp (A3:TT3) (t u:TS3) (D:E3) (Γ:G):Prop:=A3 Γ fun c Γ1=>match c with
 | true=>t D Γ1
 | false=>u D Γ1
theorem br {c:Expr} {a b:List Stmt} {tc:TT} {A3:TT3} (hc:P3T K X c tc A3) (ha:yJ K X a t t3) (hb:yJ K X b u u3):P3S K X (.If c a b pos) (JJ tc t u) (Gp A3 t3 u3):=⟨J7 hc.pe ha.pe hb.pe,fun B F σ H Γ D D3 e k q=>
 hc.rf B F σ H Γ _ _ e q fun c H' ⟨F',Γ',s,e',q'⟩=>by
  cases c with
  | true=>exact zJ (ha.rf B F' σ H' Γ' D D3 e' (k.mono s) q')
  | false=>exact zK (hb.rf B F' σ H' Γ' D D3 e' (k.mono s) q')⟩
theorem gT:P3S K X st Cu (fun _ _=>False):=⟨C4,fun B F σ H Γ D D3 e k q=>q⟩
def CD (i:Nat) (e3:TE3) (D:E3) (Γ:G):Prop:=e3 Γ fun r Γ1=>dW Γ1 i∧D.nx (Γ1.set i (some r.sl))
theorem An {i:Nat} (h:Ref K te e3):GZ K (t6 te (nE i)) (CD i e3):=fun B F σ H Γ D D3 e k q=>
 h B F σ H Γ _ _ e q fun v H' ⟨F',Γ',r,s,e',rv,hf,q'⟩=>k.nx F' _ H' _ s (e'.set hf rv) q'
theorem aZ {i:Nat} {x:Str} {pos':Pos} (hN:X.N.Nodup) (hi:X.N[i]?=some x) (hx:Loc X.env.scope x) (he:P3 K X e te e3) (hs:swapsWith e (some (.Name x pos')) pos.line X.env=pure false:=by rfl) (hf:X.fn x=true∨X.env.scope.names.lookup x=some .local:=by first | exact .inl rfl | exact .inr rfl | assumption) :
  P3S K X (.Assign [.Name x pos'] e pos) (t6 te (nE i)) (CD i e3):=⟨Ia hN hi hx he.pe hs hf,An he.rf⟩
def FL (i j:Nat) (t3:TA3) (D:E3) (Γ:G):Prop:=t3 Γ fun ds Γ1=>∃ d d',ds=[d,d']∧dW Γ1 i∧dW (Γ1.set i (some (.fz d))) j∧D.nx ((Γ1.set i (some (.fz d))).set j (some (.fz d')))
theorem CI {i j:Nat} {x y:Str} {a b:Expr} {ta:TA} {a3:TA3} {px py pt:Pos} {kt k2 pt2} (hc:X.calm=true) (hN:X.N.Nodup) (hi:X.N[i]?=some x) (hj:X.N[j]?=some y) (hij:i≠j)
  (hx:X.env.scope.names.lookup x=some .local) (hy:X.env.scope.names.lookup y=some .local) (ha:P3A K X [a,b] ta a3)
  (hw:swappedStores [.Tuple [.Name x px,.Name y py] kt pt] (.Tuple [a,b] k2 pt2) X.env=pure (some [x,y]))
  (hs:swapsWithSole [.Tuple [.Name x px,.Name y py] kt pt] (.Tuple [a,b] k2 pt2) pos.line X.env=pure false:=by rfl) :
  P3S K X (.Assign [.Tuple [.Name x px,.Name y py] kt pt] (.Tuple [a,b] k2 pt2) pos) (JH i j ta) (FL i j a3):=⟨Ic hc hN hi hj hij hx hy ha.pe hw hs,fun B F σ H Γ D D3 e k q=>
 ha.rf B F σ H Γ _ _ e q fun vs H' ⟨F',Γ',ds,s,e',rv,d,d',h1,h2,h3,q'⟩=>by
  subst h1
  obtain⟨v,ws,rfl,r1,w,ws',rfl,r2,r3⟩:=rv
  cases r3
  refine⟨v,w,rfl,k.nx F' _ H' _ s ?_ q'⟩
  exact(e'.set (r:=.fz d) h2 r1).set (r:=.fz d') h3 r2⟩
def gives (Γ:G):List Nat→List D→Option G
 | [],[]=>some Γ
 | i::is,d::ds=>gives (Γ.set i (some (.fz d))) is ds
 | _,_=>none
def frees (Γ:G):List Nat→List D→Prop
 | [],_=>True
 | i::is,d::ds=>dW Γ i∧frees (Γ.set i (some (.fz d))) is ds
 | _,_=>True
def kg:List Nat→TGs
 | []=>Gw
 | i::is=>ym (nE i) (kg is)
theorem n3 {is:List Nat}:∀ {Γ:G} {σ:L2.St} {vs:List V} {ds:List D} {Γ':G} {QQ:L2.St→Hp→Prop},En K B F σ H Γ→aF K F ds vs→gives Γ is ds=some Γ'→frees Γ is ds→(∀ σ',En K B F σ' H Γ'→QQ σ' H)→kg is vs σ H QQ:=by
 induction is with
 | nil=>
  intro Γ σ vs ds Γ' QQ e r g f k
  cases ds with
  | nil=>cases g;cases r;exact⟨rfl,k σ e⟩
  | cons d ds=>cases g
 | cons i is ih=>
  intro Γ σ vs ds Γ' QQ e r g f k
  cases ds with
  | nil=>cases g
  | cons d ds=>
   obtain⟨v,ws,rfl,r1,r2⟩:=r
   exact⟨v,ws,rfl,ih (e.set (r:=.fz d) f.1 r1) r2 g f.2 k⟩
def CB (is:List Nat) (e3:TE3) (D:E3) (Γ:G):Prop:=e3 Γ fun r Γ1=>∃ ds Γ',r.d=.tup ds∧gives Γ1 is ds=some Γ'∧frees Γ1 is ds∧D.nx Γ'
theorem u_ {is:List Nat}:∀ {Γ Γ':G} {ds:List D},gives Γ is ds=some Γ'→ds.length=is.length:=by
 induction is with
 | nil=>intro Γ Γ' ds h;cases ds with | nil=>rfl | cons=>cases h
 | cons i is ih=>intro Γ Γ' ds h;cases ds with | nil=>cases h | cons d ds=>simp [ih h]
theorem iu {es:List Expr} {kt:Nat} {pt:Pos} {is:List Nat} (hK:X.K=K) (he:P3 K X e te e3) (hg:PGs X es (kg is)) (hc:X.calm=true) (hn:(assignEach es X.env).length=is.length:=by rfl) (hst:(assignEach es X.env).findIdx? (·.1)=none:=by rfl)
  (hs:swapsWithSole [.Tuple es kt pt] e pos.line X.env=pure false:=by rfl) (hw:swappedStores [.Tuple es kt pt] e X.env=pure none:=by rfl) (h1:(assignEach [.Tuple es kt pt] X.env).map (·.2)=[assign (.Tuple es kt pt) X.env]:=by rfl) :
  P3S K X (.Assign [.Tuple es kt pt] e pos) (t6 te (B4 K is.length (kg is))) (CB is e3):=⟨by subst hK;exact C5 he.pe (vT hc hg hn hst) hs hw h1,fun B F σ H Γ D D3 e k q=>
 he.rf B F σ H Γ _ _ e q fun v H' ⟨F',Γ',r,s,e',rv,ds,Γ2,h1,h2,h3,q'⟩=>by
  obtain⟨F2,s2,e2,r2⟩:=e'.frozen rv
  rw[h1] at r2
  obtain⟨p,vs,rfl,h4,h5⟩:=r2
  refine⟨p,vs,rfl,.inl (.inl (e2.sub _ _ h4)),by rw[h5.length,u_ h2],n3 e2 h5 h2 h3 fun σ' e3=>k.nx F2 σ' _ Γ2 (s.trans s2) e3 q'⟩⟩
def putD (Γ:G) (i:Nat) (d:D):G:=match Γ[i]? with
 | some (some (.ow _))=>Γ.set i (some (.ow d))
 | some (some (.ln _))=>Γ.set i (some (.ln d))
 | _=>Γ
def ck (Γ:G) (i:Nat):Option (List D):=match Γ[i]? with
 | some (some (.ow (.lst xs)))=>some xs
 | some (some (.ln (.lst xs)))=>some xs
 | _=>none
theorem uY {i:Nat} {xs:List D} (h:ck Γ i=some xs):Hld Γ i (.lst xs):=by
 unfold ck at h
 split at h
 ·cases h;rename_i q;exact .inl q
 ·cases h;rename_i q;exact .inr q
 ·cases h
theorem En.mut (e:En K B F σ H Γ) {i:Nat} {xs xs':List D} (h:ck Γ i=some xs) {p:Addr} (hp:σ[i]?=some (some (V.ref p))) {vs':List V} (r:aF K F xs' vs'):En K B F σ (upd H p (.lst vs')) (putD Γ i (.lst xs')):=by
 have hh:=uY h
 obtain⟨p0,a0,b0,c0⟩:=e.hl i _ hh
 rw[hp] at a0;cases a0
 obtain⟨o,ho⟩:=c0.some
 have hput:(Γ[i]?=some (some (Sl.ow (.lst xs)))∧putD Γ i (.lst xs')=Γ.set i (some (.ow (.lst xs'))))∨(Γ[i]?=some (some (Sl.ln (.lst xs)))∧putD Γ i (.lst xs')=Γ.set i (some (.ln (.lst xs')))):=by
  rcases hh with q | q
  ·exact .inl ⟨q,by unfold putD;rw[q]⟩
  ·exact .inr ⟨q,by unfold putD;rw[q]⟩
 have il:i < Γ.length:=by rcases hput with ⟨q,_⟩ | ⟨q,_⟩ <;> exact(List.getElem?_eq_some_iff.mp q).1
 have other:∀ {j:Nat},j≠i→(putD Γ i (.lst xs'))[j]?=Γ[j]?:=fun z=>by
  rcases hput with ⟨_,q⟩ | ⟨_,q⟩ <;> rw[q,dJ (Ne.symm z)]
 have same:∀ {s:Sl},(putD Γ i (.lst xs'))[i]?=some (some s)→(s=.ow (.lst xs')∧Γ[i]?=some (some (Sl.ow (.lst xs))))∨(s=.ln (.lst xs')∧Γ[i]?=some (some (Sl.ln (.lst xs)))):=fun {s} q=>by
  rcases hput with ⟨a,b⟩ | ⟨a,b⟩
  ·rw[b,ba il] at q;cases q;exact .inl ⟨rfl,a⟩
  ·rw[b,ba il] at q;cases q;exact .inr ⟨rfl,a⟩
 have hld:∀ {j x},Hld (putD Γ i (.lst xs')) j x→(j=i∧x=.lst xs')∨(j≠i∧Hld Γ j x):=fun {j x} q=>by
  by_cases z:j=i
  ·subst z
   left
   rcases q with q | q <;> rcases same q with ⟨h,_⟩ | ⟨h,_⟩ <;> cases h <;> exact⟨rfl,rfl⟩
  ·right;exact⟨z,by unfold Hld at q ⊢;rw[other z] at q;exact q⟩
 have hld':∀ {j x},Hld (putD Γ i (.lst xs')) j x→∃ y,Hld Γ j y:=fun q=>by
  rcases hld q with ⟨rfl,_⟩ | ⟨_,q⟩
  ·exact⟨_,hh⟩
  ·exact⟨_,q⟩
 refine⟨?_,?_,?_,?_,?_,?_,?_,?_,e.keep,e.new,?_,?_⟩
 ·intro b u q
  have z:b≠p:=fun z=>by subst z;rw[b0] at q;cases q
  rw[au z];exact e.sub b u q
 ·rcases hput with ⟨_,q⟩ | ⟨_,q⟩ <;> rw[q,List.length_set] <;> exact e.len
 ·intro j d q
  by_cases z:j=i
  ·subst z;rcases same q with ⟨h,_⟩ | ⟨h,_⟩ <;> cases h
  ·rw[other z] at q;exact e.fz j d q
 ·intro j d q
  rcases hld q with ⟨rfl,rfl⟩ | ⟨z,q⟩
  ·exact⟨p,hp,b0,vs',aN,r⟩
  ·obtain⟨p',a,b,c⟩:=e.hl j d q
   have ne:p'≠p:=fun y=>z (e.dis j i _ _ p q hh (y ▸ a) hp)
   exact⟨p',a,b,c.mono (aL.refl F) (au ne)⟩
 ·intro j d p' q a
  by_cases z:j=i
  ·subst z
   rcases same q with ⟨h,g⟩ | ⟨h,g⟩
   ·exact e.ow j _ p' g a
   ·cases h
  ·rw[other z] at q;exact e.ow j d p' q a
 ·intro j d p' q a
  by_cases z:j=i
  ·subst z
   rcases same q with ⟨h,g⟩ | ⟨h,g⟩
   ·cases h
   ·exact e.ln j _ p' g a
  ·rw[other z] at q;exact e.ln j d p' q a
 ·intro j k d d' p' q1 q2
  obtain⟨y1,h1⟩:=hld' q1
  obtain⟨y2,h2⟩:=hld' q2
  exact e.dis j k y1 y2 p' h1 h2
 ·intro j p' q
  obtain⟨a,d,b⟩:=e.par j p' q
  refine⟨a,?_⟩
  by_cases z:j=i
  ·subst z
   rcases hput with ⟨c,_⟩ | ⟨_,c⟩
   ·rw[b] at c;cases c
   ·exact⟨_,by rw[c,ba il]⟩
  ·exact⟨d,by rw[other z];exact b⟩
 ·intro b u q n
  have z:b≠p:=fun z=>by
   subst z
   rcases hh with g | g
   ·rw[e.ow i _ _ g hp] at q;cases q
   ·exact n i (e.ln i _ _ g hp)
  rw[au z];exact e.rest b u q n
 ·intro b q
  by_cases z:b=p
  ·subst z;rw[aN] at q;cases q
  ·rw[au z] at q;exact e.dom b q
end
end L3
namespace L3
open PySem L2 PySem.Spec
section
variable {K:PySem.W.Frag} {X:Cx} {B:Bs} {F H:Hp} {σ:L2.St} {Γ:G} {pos:Pos}
def newD:List (Option Nat)→G→Nat→Option D
 | some j'::ls,s::cs,j=>if j'=j then (match s with
   | some (.ln d)=>some d
   | _=>newD ls cs j) else newD ls cs j
 | none::ls,_::cs,j=>newD ls cs j
 | _,_,_=>none
theorem jM:∀ {ls:List (Option Nat)} {cs:G} {j:Nat} {d:D},newD ls cs j=some d→∃ k:Nat,ls[k]?=some (some j)∧cs[k]?=some (some (Sl.ln d))
 | some j'::ls,s::cs,j,d,h=>by
  unfold newD at h
  split at h
  ·rename_i e
   subst e
   split at h
   ·cases h;exact⟨0,rfl,rfl⟩
   ·obtain⟨k,a,b⟩:=jM h
    exact⟨k + 1,by simpa using a,by simpa using b⟩
  ·obtain⟨k,a,b⟩:=jM h
   exact⟨k + 1,by simpa using a,by simpa using b⟩
 | none::ls,_::cs,j,d,h=>by
  unfold newD at h
  obtain⟨k,a,b⟩:=jM h
  exact⟨k + 1,by simpa using a,by simpa using b⟩
 | [],_,_,_,h=>by unfold newD at h;cases h
 | some _::_,[],_,_,h=>by unfold newD at h;cases h
 | none::_,[],_,_,h=>by unfold newD at h;cases h
theorem rG:∀ {ls:List (Option Nat)} {cs:G} {j k:Nat} {d:D},ls[k]?=some (some j)→cs[k]?=some (some (Sl.ln d))→∃ d',newD ls cs j=some d'
 | [],_,_,_,_,h,_=>by simp at h
 | _::_,[],_,_,_,_,h=>by simp at h
 | some j'::ls,s::cs,j,0,d,h,h'=>by
  simp at h h'
  subst h h'
  exact⟨d,by unfold newD;rw[if_pos rfl]⟩
 | none::ls,s::cs,j,0,d,h,h'=>by simp at h
 | some j'::ls,s::cs,j,k + 1,d,h,h'=>by
  unfold newD
  split
  ·split
   ·exact⟨_,rfl⟩
   ·exact rG (k:=k) (by simpa using h) (by simpa using h')
  ·exact rG (k:=k) (by simpa using h) (by simpa using h')
 | none::ls,s::cs,j,k + 1,d,h,h'=>by
  unfold newD
  exact rG (k:=k) (by simpa using h) (by simpa using h')
def nI (n:Option D):Option Sl→Option Sl
 | some (.ow d)=>some (.ow (n.getD d))
 | some (.ln d)=>some (.ln (n.getD d))
 | s=>s
def cm (ls:List (Option Nat)) (Γ cs:G):G:=Γ.mapIdx fun j s=>nI (newD ls cs j) s
theorem eQ {ls:List (Option Nat)} {cs:G} {j:Nat}:(cm ls Γ cs)[j]?=(Γ[j]?).map (nI (newD ls cs j)):=by
 unfold cm
 rw[List.getElem?_mapIdx]
theorem En.back {F1 H1:Hp} {own':List (Nat×Addr)} {σc:L2.St} {Γc:G} {ls:List (Option Nat)} (e:En K B F1 σ H1 Γ) (e2:En K ⟨F1,H1,own'⟩ F σc H Γc)
  (h1:∀ k p,(k,p)∈own'→∃ j d,ls[k]?=some (some j)∧Hld Γ j d∧σ[j]?=some (some (V.ref p))):En K B F σ H (cm ls Γ Γc):=by
 have gfz:∀ {j d},(cm ls Γ Γc)[j]?=some (some (Sl.fz d))→Γ[j]?=some (some (Sl.fz d)):=fun {j d} q=>by
  rw[eQ] at q
  cases w:Γ[j]? with
  | none=>rw[w] at q;cases q
  | some s=>
   rw[w] at q
   cases s with
   | none=>cases q
   | some s=>cases s <;> cases q;rfl
 have gow:∀ {j d},(cm ls Γ Γc)[j]?=some (some (Sl.ow d))→∃ d0,Γ[j]?=some (some (Sl.ow d0))∧d=(newD ls Γc j).getD d0:=fun {j d} q=>by
  rw[eQ] at q
  cases w:Γ[j]? with
  | none=>rw[w] at q;cases q
  | some s=>
   rw[w] at q
   cases s with
   | none=>cases q
   | some s=>cases s <;> cases q;exact⟨_,rfl,rfl⟩
 have gln:∀ {j d},(cm ls Γ Γc)[j]?=some (some (Sl.ln d))→∃ d0,Γ[j]?=some (some (Sl.ln d0))∧d=(newD ls Γc j).getD d0:=fun {j d} q=>by
  rw[eQ] at q
  cases w:Γ[j]? with
  | none=>rw[w] at q;cases q
  | some s=>
   rw[w] at q
   cases s with
   | none=>cases q
   | some s=>cases s <;> cases q;exact⟨_,rfl,rfl⟩
 have gh:∀ {j d},Hld (cm ls Γ Γc) j d→∃ d0,Hld Γ j d0∧d=(newD ls Γc j).getD d0:=fun {j d} q=>by
  rcases q with q | q
  ·obtain⟨d0,a,b⟩:=gow q;exact⟨d0,.inl a,b⟩
  ·obtain⟨d0,a,b⟩:=gln q;exact⟨d0,.inr a,b⟩
 refine⟨e2.sub,by unfold cm;rw[List.length_mapIdx];exact e.len,?_,?_,?_,?_,?_,?_,e.keep.trans e2.keep,?_,?_,?_⟩
 ·intro j d q
  obtain⟨v,a,b⟩:=e.fz j d (gfz q)
  exact⟨v,a,b.mono e2.keep⟩
 ·intro j d q
  obtain⟨d0,w0,rfl⟩:=gh q
  obtain⟨p,a,b,c⟩:=e.hl j d0 w0
  obtain⟨o,ho⟩:=c.some
  have fp:F p=none:=by
   cases w:F p with
   | none=>rfl
   | some u=>
    rcases e2.new p u w with z | z
    ·rw[show F1 p=some u from z] at b;cases b
    ·rw[show H1 p=none from z] at ho;cases ho
  refine⟨p,a,fp,?_⟩
  cases w:newD ls Γc j with
  | some d'=>
   obtain⟨k,x,y⟩:=jM w
   obtain⟨p',a',b',c'⟩:=e2.hl k d' (.inr y)
   obtain⟨j2,d2,x2,_,a2⟩:=h1 k p' (e2.ln k d' p' y a')
   rw[x] at x2;cases x2
   rw[a] at a2;cases a2
   exact c'
  | none=>
   have hk:∀ k,(k,p)∉own':=fun k hk=>by
    obtain⟨j2,d2,x2,q2,a2⟩:=h1 k p hk
    obtain⟨_,d3,y⟩:=e2.par k p hk
    have:j2=j:=e.dis j2 j d2 d0 p q2 w0 a2 a
    subst this
    obtain⟨d4,z⟩:=rG x2 y
    rw[w] at z;cases z
   have hp:H p=H1 p:=by rw[ho];exact e2.rest p o ho hk
   exact c.mono e2.keep hp
 ·intro j d p q a
  obtain⟨d0,q,_⟩:=gow q
  exact e.ow j d0 p q a
 ·intro j d p q a
  obtain⟨d0,q,_⟩:=gln q
  exact e.ln j d0 p q a
 ·intro i j d d' p q1 q2
  obtain⟨d0,q1,_⟩:=gh q1
  obtain⟨d1,q2,_⟩:=gh q2
  exact e.dis i j d0 d1 p q1 q2
 ·intro j p q
  obtain⟨a,d,b⟩:=e.par j p q
  exact⟨a,_,by rw[eQ,b];rfl⟩
 ·intro b o q
  rcases e2.new b o q with z | z
  ·exact e.new b o z
  ·exact .inr (e.dom b z)
 ·intro b o q n
  have q1:=e.rest b o q n
  refine e2.rest b o q1 fun k hk=>?_
  obtain⟨j,d,x,y,a⟩:=h1 k b hk
  rcases y with y | y
  ·rw[e.ow j d b y a] at q;cases q
  ·exact n j (e.ln j d b y a)
 ·intro b q
  exact e.dom b (e2.dom b q)
structure ItR (K:PySem.W.Frag) (F:Hp) (J:It) (xs:List D):Prop where
 go:∀ i H',aL F H'→i < xs.length→J.go i H'
 stop:∀ i H',aL F H'→i=xs.length→J.stop i H'
 yld:∀ i H' x H'' d,aL F H'→xs[i]?=some d→J.yld i H' x H''→(H''=H'∧Rep K F d x)∨∃ t vs ds,H' t=none∧H''=upd H' t (.tup vs)∧x=.ref t∧aF K F ds vs∧d=.tup ds
abbrev TI3:=G→(List D→G→Prop)→Prop
def G0 (K:PySem.W.Frag) (t:TI) (i3:TI3):Prop:=∀ (B:Bs) (F:Hp) (σ:L2.St) (H:Hp) (Γ:G) (Q:List D→G→Prop) (R:It→Hp→Prop),En K B F σ H Γ→i3 Γ Q→(∀ J H1 F1 Γ1 xs,aL F F1→En K B F1 σ H1 Γ1→ItR K F1 J xs→Q xs Γ1→R J H1)→t σ H R
structure P3I (K:PySem.W.Frag) (X:Cx) (tg iter:Expr) (t:TI) (i3:TI3):Prop where
 pe:PI X tg iter t
 rf:G0 K t i3
abbrev TG3:=D→G→(G→Prop)→Prop
def ET (K:PySem.W.Frag) (g:TG) (g3:TG3):Prop:=∀ (B:Bs) (F:Hp) (σ:L2.St) (H:Hp) (Γ:G) (v:V) (d:D) (Q:G→Prop) (QQ:L2.St→Hp→Prop),En K B F σ H Γ→Rep K F d v→g3 d Γ Q→(∀ σ' Γ',En K B F σ' H Γ'→Q Γ'→QQ σ' H)→g v σ H QQ
structure P3G (K:PySem.W.Frag) (X:Cx) (tg:Expr) (g:TG) (g3:TG3):Prop where
 pe:PG X tg g
 rf:ET K g g3
def tgN (i:Nat) (d:D) (Γ:G) (Q:G→Prop):Prop:=dW Γ i∧Q (Γ.set i (some (.fz d)))
def tgT (is:List Nat) (d:D) (Γ:G) (Q:G→Prop):Prop:=∃ ds Γ',d=.tup ds∧gives Γ is ds=some Γ'∧frees Γ is ds∧Q Γ'
theorem cE {i:Nat} {x:Str} (hN:X.N.Nodup) (hi:X.N[i]?=some x) (hx:Loc X.env.scope x) (hf:X.fn x=true∨X.env.scope.names.lookup x=some .local:=by first | exact .inl rfl | exact .inr rfl | assumption):P3G K X (.Name x pos) (nE i) (tgN i):=
 ⟨aA hN hi hx hf,fun B F σ H Γ v d Q QQ e r q k=>k _ _ (e.set (r:=.fz d) q.1 r) q.2⟩
theorem hU {es:List Expr} {kt:Nat} {is:List Nat} (hK:X.K=K) (hg:PGs X es (kg is)) (hc:X.calm=true) (hn:(assignEach es X.env).length=is.length:=by rfl) (hst:(assignEach es X.env).findIdx? (·.1)=none:=by rfl) :
  P3G K X (.Tuple es kt pos) (B4 K is.length (kg is)) (tgT is):=⟨by subst hK;exact vT hc hg hn hst,fun B F σ H Γ v d Q QQ e r q k=>by
 obtain⟨ds,Γ',rfl,h1,h2,q⟩:=q
 obtain⟨p,vs,rfl,h4,h5⟩:=r
 exact⟨p,vs,rfl,.inl (.inl (e.sub _ _ h4)),by rw[h5.length,u_ h1],n3 e h5 h1 h2 fun σ' e'=>k σ' Γ' e' q⟩⟩
theorem ItR.turn {J:It} {xs:List D} (R:ItR K F J xs) {F' H' H'':Hp} (s:aL F F') (e:En K B F' σ H' Γ) {i:Nat} {d:D} {x:V} (hd:xs[i]?=some d) (y:J.yld i H' x H''):∃ F2,aL F' F2∧En K B F2 σ H'' Γ∧Rep K F2 d x:=by
 rcases R.yld i H' x H'' d (s.trans e.sub) hd y with ⟨rfl,r⟩ | ⟨t,vs,ds,h1,rfl,rfl,r,rfl⟩
 ·exact⟨F',aL.refl F',e,r.mono s⟩
 ·exact⟨upd F' t (.tup vs),dP (e.nof h1),(e.alloc h1 _).freeze (e.nof h1) aN (e.dom _ h1) (e.BG h1),t,vs,rfl,aN,r.mono (s.trans (dP (e.nof h1)))⟩
def Jl (i3:TI3) (g3:TG3) (b3:TS3) (D:E3) (Γ:G):Prop:=i3 Γ fun xs Γ1=>∃ Iv:Nat→G→Prop,Iv 0 Γ1∧(∀ k d Γ,xs[k]?=some d→Iv k Γ→g3 d Γ fun Γ'=>b3 { D with nx:=Iv (k + 1),ct:=Iv (k + 1),bk:=D.nx } Γ')∧∀ Γ,Iv xs.length Γ→D.nx Γ
theorem eS {tg iter:Expr} {body:List Stmt} {wi:TI} {i3:TI3} {g:TG} {g3:TG3} {tb:TS} {b3:TS3} (hp:PassesOwn (model X.prog X.w) X.A X.env X.xe) (hc:X.calm=true) (hi:P3I K X tg iter wi i3) (hg:P3G K X tg g g3) (hb:yJ K X body tb b3) (hs:∀ x,foldedSetIterable iter X.env x=pure x:=by intro _;rfl) :
  P3S K X (.For tg iter body [] pos) (JK wi g tb) (Jl i3 g3 b3):=⟨Ie hp hc hi.pe hg.pe hb.pe hs,fun B F σ H Γ D D3 e k q=>by
 refine hi.rf B F σ H Γ _ _ e q fun J H1 F1 Γ1 xs s1 e1 R ⟨Iv,i0,it,ie⟩=>?_
 refine⟨fun i m σ H=>m=xs.length - i∧i≤xs.length∧∃ F' Γ',aL F1 F'∧En K B F' σ H Γ'∧Iv i Γ',⟨_,rfl,Nat.zero_le _,F1,Γ1,aL.refl _,e1,i0⟩,?_⟩
 rintro i m σ2 H2 ⟨rfl,hi',F2,Γ2,s2,e2,iv⟩
 by_cases lt:i < xs.length
 ·refine .inr ⟨R.go i H2 (s2.trans e2.sub) lt,fun σ' H'=>∃ F' Γ',aL F1 F'∧En K B F' σ' H' Γ'∧Iv (i + 1) Γ',fun σ' H' ⟨F',Γ',a,b,c⟩=>⟨xs.length - (i + 1),by omega,rfl,lt,F',Γ',a,b,c⟩,fun x H3 y=>?_⟩
  have hd:xs[i]?=some xs[i]:=List.getElem?_eq_getElem lt
  obtain⟨F3,s3,e3,r3⟩:=R.turn s2 e2 hd y
  refine hg.rf B F3 σ2 H3 Γ2 x _ _ _ e3 r3 (it i _ Γ2 hd iv) fun σ' Γ' e4 q4=>?_
  have s4:=s2.trans s3
  refine hb.rf B F3 σ' H3 Γ' _ { D3 with nx:=Iv (i + 1),ct:=Iv (i + 1),bk:=D3.nx } e4 ⟨fun F' σ' H' Γ' s e q=>⟨F',Γ',s4.trans s,e,q⟩,fun F' σ' H' Γ' v r s e rv q=>k.rt F' σ' H' Γ' v r ((s1.trans s4).trans s) e rv q,fun F' σ' H' Γ' s e q=>k.nx F' σ' H' Γ' ((s1.trans s4).trans s) e q,fun F' σ' H' Γ' s e q=>⟨F',Γ',s4.trans s,e,q⟩⟩ q4
 ·have z:i=xs.length:=by omega
  subst z
  exact .inl ⟨R.stop _ H2 (s2.trans e2.sub) rfl,k.nx F2 σ2 H2 Γ2 (s1.trans s2) e2 (ie Γ2 iv)⟩⟩
def iL3 (a3:TE3) (Γ:G) (Q:List D→G→Prop):Prop:=a3 Γ fun r Γ1=>∃ xs,r.d=.lst xs∧Q xs Γ1
theorem gP {tg l:Expr} {tl:TE} {l3:TE3} (hK:X.K=K) (h:P3 K X l tl l3):P3I K X tg l (Hm K tl) (iL3 l3):=⟨by subst hK;exact FA h.pe,fun B F σ H Γ Q R e q k=>
 h.rf B F σ H Γ _ _ e q fun v H' ⟨F',Γ',r,s,e',rv,xs,hx,q'⟩=>by
  obtain⟨F2,s2,e2,r2⟩:=e'.frozen rv
  rw[hx] at r2
  obtain⟨p,vs,rfl,h1,h2⟩:=r2
  refine⟨p,rfl,⟨vs,SqL.of (e2.sub _ _ h1)⟩,k _ H' F2 Γ' xs (s.trans s2) e2 ⟨fun i H'' sm lt=>?_,fun i H'' sm ei=>?_,fun i H'' x H3 d sm hd y=>?_⟩ q'⟩
  ·rw[← h2.length] at lt
   exact⟨vs,vs[i],SqL.of (sm _ _ h1),by simp [lt]⟩
  ·exact⟨vs,SqL.of (sm _ _ h1),by rw[h2.length];omega⟩
  ·obtain⟨e1,y⟩:=y
   obtain⟨d',hd',r⟩:=h2.Ji (y vs (SqL.of (sm _ _ h1)))
   rw[hd] at hd';cases hd'
   exact .inl ⟨e1,r⟩⟩
def rng (lo:Int) (n:Nat):List D:=(List.range n).map fun (k:Nat)=>D.int (lo + (k:Int))
theorem G_ {lo:Int} {n:Nat}:ItR K F (Itr lo n) (rng lo n):=by
 have hl:(rng lo n).length=n:=by simp [rng]
 refine⟨fun i H' _ lt=>by rw[hl] at lt;exact lt,fun i H' _ e=>by rw[hl] at e;exact Nat.le_of_eq e.symm,fun i H' x H'' d _ hd y=>?_⟩
 obtain⟨e1,e2⟩:=y
 subst e1 e2
 refine .inl ⟨rfl,?_⟩
 have hi:i < n:=by have:=(List.getElem?_eq_some_iff.mp hd).1;rw[hl] at this;exact this
 have:(rng lo n)[i]?=some (.int (lo + i)):=by unfold rng;rw[List.getElem?_map,List.getElem?_range hi];rfl
 rw[this] at hd;cases hd
 rfl
def iR1 (t3:TA3) (Γ:G) (Q:List D→G→Prop):Prop:=t3 Γ fun ds Γ1=>∃ j:Int,ds=[.int j]∧-(2 ^ 62)≤j∧j < 2 ^ 62∧Q (rng 0 j.toNat) Γ1
def iR2 (t3:TA3) (Γ:G) (Q:List D→G→Prop):Prop:=t3 Γ fun ds Γ1=>∃ i j:Int,ds=[.int i,.int j]∧(-(2 ^ 62)≤i∧i < 2 ^ 62∧-(2 ^ 62)≤j∧j < 2 ^ 62)∧Q (rng i (j - i).toNat) Γ1
theorem eN {tg a:Expr} {ta:TA} {a3:TA3} {p pos:Pos} (hg:Gl X "range") (hm:X.mg "range"=none) (ha:P3A K X [a] ta a3) (hs:starEach [a] X.env=[(false,eval a X.env)]:=by rfl):P3I K X tg (.Call (.Name "range" p) [a] [] pos) (Hl ta) (iR1 a3):=⟨Bz hg hm ha.pe hs,fun B F σ H Γ Q R e q k=>
 ha.rf B F σ H Γ _ _ e q fun vs H' ⟨F',Γ',ds,s,e',rv,j,h1,h2,h3,q'⟩=>by
  subst h1
  obtain⟨v,ws,rfl,r1,r2⟩:=rv
  cases r1;cases r2
  exact⟨j,rfl,h2,h3,k _ H' F' Γ' _ s e' G_ q'⟩⟩
theorem uX {tg a b:Expr} {ta:TA} {a3:TA3} {p pos:Pos} (hg:Gl X "range") (hm:X.mg "range"=none) (ha:P3A K X [a,b] ta a3) (hs:starEach [a,b] X.env=[(false,eval a X.env),(false,eval b X.env)]:=by rfl) (hs2:starEach [b] X.env=[(false,eval b X.env)]:=by rfl) :
  P3I K X tg (.Call (.Name "range" p) [a,b] [] pos) (Hk ta) (iR2 a3):=⟨By hg hm ha.pe hs hs2,fun B F σ H Γ Q R e q k=>
 ha.rf B F σ H Γ _ _ e q fun vs H' ⟨F',Γ',ds,s,e',rv,i,j,h1,h2,q'⟩=>by
  subst h1
  obtain⟨v,ws,rfl,r1,w,ws',rfl,r2,r3⟩:=rv
  cases r1;cases r2;cases r3
  exact⟨i,j,rfl,h2,k _ H' F' Γ' _ s e' G_ q'⟩⟩
def ir (xs ys:List D):List D:=(xs.zip ys).map fun p=>.tup [p.1,p.2]
def iZ3 (t3:TA3) (Γ:G) (Q:List D→G→Prop):Prop:=t3 Γ fun ds Γ1=>∃ xs ys,ds=[.lst xs,.lst ys]∧Q (ir xs ys) Γ1
theorem jK {xs ys:List D} {i:Nat} {d:D} (h:(ir xs ys)[i]?=some d):∃ x y,xs[i]?=some x∧ys[i]?=some y∧d=.tup [x,y]:=by
 unfold ir at h
 rw[List.getElem?_map] at h
 cases q:(xs.zip ys)[i]? with
 | none=>rw[q] at h;cases h
 | some p=>
  rw[q] at h;cases h
  rw[List.getElem?_zip_eq_some] at q
  exact⟨_,_,q.1,q.2,rfl⟩
theorem lY {a b:Expr} {ta:TA} {a3:TA3} {es:List Expr} {kt:Nat} {tp p pos:Pos} (hg:Gl X "zip") (hm:X.mg "zip"=none) (ha:P3A K X [a,b] ta a3) (hs:starEach [a,b] X.env=[(false,eval a X.env),(false,eval b X.env)]:=by rfl) (hs2:starEach [b] X.env=[(false,eval b X.env)]:=by rfl) :
  P3I K X (.Tuple es kt tp) (.Call (.Name "zip" p) [a,b] [] pos) (Kz ta) (iZ3 a3):=⟨Ij hg hm ha.pe hs hs2,fun B F σ H Γ Q R e q k=>
 ha.rf B F σ H Γ _ _ e q fun vs H' ⟨F',Γ',ds,s,e',rv,xs,ys,h1,q'⟩=>by
  subst h1
  obtain⟨v,ws,rfl,⟨p1,vs1,rfl,g1,r1⟩,w,ws',rfl,⟨p2,vs2,rfl,g2,r2⟩,r3⟩:=rv
  cases r3
  refine⟨p1,p2,vs1,vs2,rfl,e'.sub _ _ g1,e'.sub _ _ g2,k _ H' F' Γ' _ s e' ⟨fun i H'' sm lt=>?_,fun i H'' sm ei=>?_,fun i H'' x H3 d sm hd y=>?_⟩ q'⟩
  ·obtain⟨x,y,hx,hy,_⟩:=jK (List.getElem?_eq_getElem lt)
   obtain⟨v,hv,_⟩:=r1.get hx
   obtain⟨w,hw,_⟩:=r2.get hy
   exact⟨vs1,vs2,v,w,sm _ _ g1,sm _ _ g2,hv,hw⟩
  ·refine⟨vs1,vs2,sm _ _ g1,sm _ _ g2,?_⟩
   subst ei
   unfold ir
   rw[List.length_map,List.length_zip,r1.length,r2.length]
   omega
  ·obtain⟨t,zs1,zs2,x1,y1,ht,a1,a2,b1,b2,rfl,rfl⟩:=y
   rw[sm _ _ g1] at a1;cases a1
   rw[sm _ _ g2] at a2;cases a2
   obtain⟨dx,dy,hx,hy,rfl⟩:=jK hd
   obtain⟨v,hv,rv⟩:=r1.get hx
   obtain⟨w,hw,rw'⟩:=r2.get hy
   rw[b1] at hv;cases hv
   rw[b2] at hw;cases hw
   exact .inr ⟨t,_,[dx,dy],ht,rfl,rfl,⟨_,_,rfl,rv,_,_,rfl,rw',rfl⟩,rfl⟩⟩
def KU (xs:List D):List D:=xs.mapIdx fun i x=>.tup [.int i,x]
def iE3 (t3:TA3) (Γ:G) (Q:List D→G→Prop):Prop:=t3 Γ fun ds Γ1=>∃ xs,ds=[.lst xs]∧Q (KU xs) Γ1
theorem j6 {p:Addr} {vs:List V} (h:H p=some (.lst vs)):tyV K "list" (.ref p) H:=.inl ⟨rfl,_,SqL.of h⟩
theorem En.ck (e:En K B F σ H Γ) {i:Nat} {xs:List D} (h:ck Γ i=some xs):∃ p vs,σ[i]?=some (some (V.ref p))∧H p=some (.lst vs)∧aF K F xs vs:=by
 obtain⟨p,a,b,vs,c,d⟩:=e.hl i _ (uY h)
 exact⟨p,vs,a,c,d⟩
def GU (i:Nat) (e3:TE3) (Γ:G) (Q:RV→G→Prop):Prop:=(∃ xs,ck Γ i=some xs)∧e3 Γ fun r Γ1=>∃ xs,ck Γ1 i=some xs∧xs.length < sizeLine∧Q (.fz .non) (putD Γ1 i (.lst (xs++[r.d])))
theorem Fm {te:TE} {e3:TE3} (i:Nat) (h:Ref K te e3):Ref K (tBM K "list" vP (dO i) (ip te lA)) (GU i e3):=by
 intro B F σ H Γ Q QQ e ⟨⟨xs0,h0⟩,q⟩ k
 obtain⟨p,vs0,a0,b0,_⟩:=e.ck h0
 refine⟨_,a0,j6 b0,h B F σ H Γ _ _ e q fun v H' ⟨F',Γ',r,s,e',rv,xs,hx,hz,q'⟩=>?_⟩
 obtain⟨F2,s2,e2,r2⟩:=e'.frozen rv
 obtain⟨p',vs,a,b,c⟩:=e2.ck hx
 rw[a0] at a;cases a
 exact⟨p,vs,v,rfl,rfl,b,by rw[c.length];exact hz,k _ _ ⟨F2,_,.fz .non,s.trans s2,e2.mut hx a0 (aF.append (ys:=[r.d]) c ⟨v,[],rfl,r2,rfl⟩),rfl,q'⟩⟩
def ext3 (i:Nat) (b3:TB3) (Γ:G) (Q:RV→G→Prop):Prop:=(∃ xs,ck Γ i=some xs)∧b3 Γ fun r Γ1=>∃ xs ys,ck Γ1 i=some xs∧r.at Γ1=some (.lst ys)∧xs.length + ys.length≤sizeLine∧Q (.fz .non) (putD Γ1 i (.lst (xs++ys)))
theorem Fl {te:TE} {e3:TB3} (i:Nat) (h:tS K te e3):Ref K (tBM K "list" vO (dO i) (ip te lA)) (ext3 i e3):=by
 intro B F σ H Γ Q QQ e ⟨⟨xs0,h0⟩,q⟩ k
 obtain⟨p,vs0,a0,b0,_⟩:=e.ck h0
 refine⟨_,a0,j6 b0,h B F σ H Γ _ _ e q fun v H' ⟨F2,Γ',r,s,e2,rv,xs,ys,hx,hy,hz,q'⟩=>?_⟩
 obtain⟨p2,ws,rfl,b2,c2⟩:=e2.bo rv hy
 obtain⟨p',vs,a,b,c⟩:=e2.ck hx
 rw[a0] at a;cases a
 exact⟨p,p2,vs,ws,rfl,rfl,b,b2,by rw[c.length,c2.length];exact hz,k _ _ ⟨F2,_,.fz .non,s,e2.mut hx a0 (c.append c2),rfl,q'⟩⟩
def yP (i:Nat) (f:List D→List D) (Γ:G) (Q:RV→G→Prop):Prop:=∃ xs,ck Γ i=some xs∧Q (.fz .non) (putD Γ i (.lst (f xs)))
theorem aF.reverse:∀ {xs:List D} {vs:List V},aF K F xs vs→aF K F xs.reverse vs.reverse
 | [],_,h=>by cases h;exact rfl
 | x::xs,_,⟨v,ws,h1,h2,h3⟩=>by subst h1;rw[List.reverse_cons,List.reverse_cons];exact h3.reverse.append ⟨v,[],rfl,h2,rfl⟩
theorem Bt (i:Nat):Ref K (Bm K "list" y6 (dO i)) (yP i fun _=>[]):=by
 intro B F σ H Γ Q QQ e ⟨xs0,h0,q⟩ k
 obtain⟨p,vs0,a0,b0,c0⟩:=e.ck h0
 exact⟨_,a0,j6 b0,p,vs0,rfl,rfl,b0,k _ _ ⟨F,_,.fz .non,aL.refl F,e.mut h0 a0 (xs':=[]) rfl,rfl,q⟩⟩
theorem xF (i:Nat):Ref K (Bm K "list" sg (dO i)) (yP i List.reverse):=by
 intro B F σ H Γ Q QQ e ⟨xs0,h0,q⟩ k
 obtain⟨p,vs0,a0,b0,c0⟩:=e.ck h0
 exact⟨_,a0,j6 b0,p,vs0,rfl,rfl,b0,k _ _ ⟨F,_,.fz .non,aL.refl F,e.mut h0 a0 c0.reverse,rfl,q⟩⟩
variable {o e:Expr} {te:TE} {e3:TE3} {eb:TB3} {apos cpos:Pos}
theorem cJ (i:Nat) {x:Str} {px:Pos} (hK:X.K=K) (hx:P3B K X (.Name x px) (dO i) (bor i)) (he:P3 K X e te e3) (hbase:attributeBase (.Name x px) "append" X.env (eval (.Name x px) X.env)=eval (.Name x px) X.env:=by rfl)
  (hfew:((backTo cpos (starEach [e] X.env)).all (fun x=>!x.1) && (backToKw cpos (keywordEach [] X.env)).all (fun x=>x.1.isSome)
   && decide ([e].length + ([]:List Keyword).length + (if ([]:List Keyword).isEmpty then 0 else 1) < 30))=true:=by rfl)
  (hline:(apos.endLine == cpos.line)=true:=by rfl) (hs:starEach [e] X.env=(false,eval e X.env)::starEach [] X.env:=by rfl) (hplain:(backTo cpos (starEach [] X.env)).any (·.1)=false:=by rfl) :
  P3 K X (.Call (.Attribute (.Name x px) "append" apos) [e] [] cpos) (tBM K "list" vP (dO i) (ip te lA)) (GU i e3):=
 ⟨by subst hK;exact xQ PySem.F.plainAttrs_list PySem.F.slot_list_append PySem.F.type_list_append BM hx.pe (bO he.pe el hs) hbase hfew hline hs hplain,Fm i he.rf⟩
theorem pS (i:Nat) {x:Str} {px:Pos} (hK:X.K=K) (hx:P3B K X (.Name x px) (dO i) (bor i)) (he:P3B K X e te eb) (hbase:attributeBase (.Name x px) "extend" X.env (eval (.Name x px) X.env)=eval (.Name x px) X.env:=by rfl)
  (hfew:((backTo cpos (starEach [e] X.env)).all (fun x=>!x.1) && (backToKw cpos (keywordEach [] X.env)).all (fun x=>x.1.isSome)
   && decide ([e].length + ([]:List Keyword).length + (if ([]:List Keyword).isEmpty then 0 else 1) < 30))=true:=by rfl)
  (hline:(apos.endLine == cpos.line)=true:=by rfl) (hs:starEach [e] X.env=(false,eval e X.env)::starEach [] X.env:=by rfl) (hplain:(backTo cpos (starEach [] X.env)).any (·.1)=false:=by rfl) :
  P3 K X (.Call (.Attribute (.Name x px) "extend" apos) [e] [] cpos) (tBM K "list" vO (dO i) (ip te lA)) (ext3 i eb):=
 ⟨by subst hK;exact xQ PySem.F.plainAttrs_list PySem.F.slot_list_extend PySem.F.type_list_extend BL hx.pe (bO he.pe el hs) hbase hfew hline hs hplain,Fl i he.rf⟩
theorem Dm (i:Nat) {x:Str} {px:Pos} (hK:X.K=K) (hx:P3B K X (.Name x px) (dO i) (bor i)) (hbase:attributeBase (.Name x px) "clear" X.env (eval (.Name x px) X.env)=eval (.Name x px) X.env:=by rfl) (hline:(apos.endLine == cpos.line)=true:=by rfl) :
  P3 K X (.Call (.Attribute (.Name x px) "clear" apos) [] [] cpos) (Bm K "list" y6 (dO i)) (yP i fun _=>[]):=
 ⟨by subst hK;exact zc PySem.F.plainAttrs_list PySem.F.slot_list_clear PySem.F.type_list_clear DF hx.pe hbase hline,Bt i⟩
theorem ze (i:Nat) {x:Str} {px:Pos} (hK:X.K=K) (hx:P3B K X (.Name x px) (dO i) (bor i)) (hbase:attributeBase (.Name x px) "reverse" X.env (eval (.Name x px) X.env)=eval (.Name x px) X.env:=by rfl) (hline:(apos.endLine == cpos.line)=true:=by rfl) :
  P3 K X (.Call (.Attribute (.Name x px) "reverse" apos) [] [] cpos) (Bm K "list" sg (dO i)) (yP i List.reverse):=
 ⟨by subst hK;exact zc PySem.F.plainAttrs_list PySem.F.slot_list_reverse PySem.F.type_list_reverse zk hx.pe hbase hline,xF i⟩
def Ak (i:Nat) (k3:TB3) (e3:TE3) (D:E3) (Γ:G):Prop:=e3 Γ fun r Γ1=>(∃ xs,ck Γ1 i=some xs)∧k3 Γ1 fun b Γ2=>∃ xs k j,ck Γ2 i=some xs∧b.at Γ2=some (.int k)∧ixN xs.length k=some j∧D.nx (putD Γ2 i (.lst (xs.set j r.d)))
theorem Fe (i:Nat) {x:Str} {px p2:Pos} {k:Expr} {tk:TE} {k3:TB3} (hx:P3B K X (.Name x px) (dO i) (bor i)) (hk:P3B K X k tk k3) (he:P3 K X e te e3) (pe:PS X (.Assign [.Subscript (.Name x px) k p2] e pos) (t6 te (Gv (dO i) tk Ap))) :
  P3S K X (.Assign [.Subscript (.Name x px) k p2] e pos) (t6 te (Gv (dO i) tk Ap)) (Ak i k3 e3):=⟨pe,fun B F σ H Γ D D3 e k q=>
 he.rf B F σ H Γ _ _ e q fun v H' ⟨F',Γ',r,s,e',rv,⟨xs0,h0⟩,q'⟩=>by
  obtain⟨F2,s2,e2,r2⟩:=e'.frozen rv
  obtain⟨p,vs0,a0,b0,_⟩:=e2.ck h0
  refine⟨_,a0,hk.rf B F2 σ H' Γ' _ _ e2 q' fun u H2 ⟨F3,Γ3,bo,s3,e3,rb,xs,kk,j,hx,hb,hj,q3⟩=>?_⟩
  obtain⟨p',vs,a,b,c⟩:=e3.ck hx
  rw[a0] at a;cases a
  have hu:u=.int kk:=e3.bo rb hb
  exact⟨p,vs,kk,j,rfl,hu,b,by rw[c.length];exact hj,k.nx F3 σ _ _ ((s.trans s2).trans s3) (e3.mut hx a0 (aF.set (r2.mono s3) j c)) q3⟩⟩
end
end L3
namespace L3
open PySem L2 PySem.Spec
section
variable {K:PySem.W.Frag} {X:Cx} {B:Bs} {F H:Hp} {σ:L2.St} {Γ:G} {pos:Pos}
def fI:Option (Option Sl)→Option Sl
 | some (some (.fz d))=>some (.fz d)
 | some (some (.ow d))=>some (.ln d)
 | some (some (.ln d))=>some (.ln d)
 | _=>none
def jY (Γ:G):Bo→Option Sl
 | .d x=>some (.fz x)
 | .v i=>fI Γ[i]?
def dz:Option Bo→Option Nat
 | some (.v i)=>some i
 | _=>none
def Dq (Γ:G) (σ:L2.St) (k:Nat):Option Bo→Option (Nat×Addr)
 | some (.v i)=>match Γ[i]?,σ[i]? with
  | some (some (.ow _)),some (some (.ref p))=>some (k,p)
  | some (some (.ln _)),some (some (.ref p))=>some (k,p)
  | _,_=>none
 | _=>none
def ownOf (Γ:G) (σ:L2.St) (bs:List (Option Bo)):List (Nat×Addr):=(List.range bs.length).filterMap fun k=>(bs[k]?).bind (Dq Γ σ k)
theorem mW {bs:List (Option Bo)} {k:Nat} {p:Addr}:(k,p)∈ownOf Γ σ bs↔∃ i d,bs[k]?=some (some (Bo.v i))∧Hld Γ i d∧σ[i]?=some (some (V.ref p)):=by
 unfold ownOf
 rw[List.mem_filterMap]
 constructor
 ·rintro⟨k',_,h⟩
  cases q:bs[k']? with
  | none=>rw[q] at h;cases h
  | some o=>
   rw[q] at h
   change Dq Γ σ k' o=some (k,p) at h
   unfold Dq at h
   split at h
   ·rename_i i
    split at h
    ·rename_i d p' h1 h2
     cases h
     exact⟨i,d,q,.inl h1,h2⟩
    ·rename_i d p' h1 h2
     cases h
     exact⟨i,d,q,.inr h1,h2⟩
    ·cases h
   ·cases h
 ·rintro⟨i,d,h1,h2,h3⟩
  refine⟨k,List.mem_range.mpr (List.getElem?_eq_some_iff.mp h1).1,?_⟩
  rw[h1]
  show Dq Γ σ k (some (Bo.v i))=_
  unfold Dq
  rcases h2 with h2 | h2
  ·simp only[h2,h3]
  ·simp only[h2,h3]
def fA (Γ:G) (bs:List (Option Bo)):G:=bs.map fun o=>o.bind (jY Γ)
theorem jZ {bs:List (Option Bo)} {k:Nat} {s:Sl}:(fA Γ bs)[k]?=some (some s)↔∃ bo,bs[k]?=some (some bo)∧jY Γ bo=some s:=by
 unfold fA
 rw[List.getElem?_map]
 constructor
 ·intro h
  cases q:bs[k]? with
  | none=>rw[q] at h;cases h
  | some o=>
   rw[q] at h
   cases o with
   | none=>cases h
   | some bo=>exact⟨bo,rfl,by simpa using h⟩
 ·rintro⟨bo,h1,h2⟩
  rw[h1];simp [h2]
theorem GQ {bo:Bo} {d:D} (h:jY Γ bo=some (.ln d)):∃ i,bo=.v i∧Hld Γ i d:=by
 cases bo with
 | d x=>cases h
 | v i=>
  change fI Γ[i]?=_ at h
  unfold fI at h
  split at h
  ·cases h
  ·cases h;rename_i q;exact⟨i,rfl,.inl q⟩
  ·cases h;rename_i q;exact⟨i,rfl,.inr q⟩
  ·cases h
theorem GR {bo:Bo} {d:D} (h:jY Γ bo=some (.fz d)):bo=.d d∨∃ i,bo=.v i∧Γ[i]?=some (some (Sl.fz d)):=by
 cases bo with
 | d x=>cases h;exact .inl rfl
 | v i=>
  change fI Γ[i]?=_ at h
  unfold fI at h
  split at h
  ·cases h;rename_i q;exact .inr ⟨i,rfl,q⟩
  ·cases h
  ·cases h
  ·cases h
theorem xi {bo:Bo} {d:D}:jY Γ bo≠some (.ow d):=by
 intro h
 cases bo with
 | d x=>cases h
 | v i=>change fI Γ[i]?=_ at h;unfold fI at h;split at h <;> cases h
theorem rL {bs:List (Option Bo)}:∀ (k:Nat) (d:D),(fA Γ bs)[k]?≠some (some (Sl.ow d)):=fun k d h=>by
 obtain⟨bo,_,h⟩:=jZ.mp h
 exact xi h
theorem En.inner (e:En K B F σ H Γ) {bs:List (Option Bo)} {σc:L2.St} (hl:σc.length=bs.length) (hσ:∀ (k:Nat) (bo:Bo) (s:Sl),bs[k]?=some (some bo)→jY Γ bo=some s→∃ v,σc[k]?=some (some v)∧qM K F σ bo v)
  (nd:∀ (k k' i:Nat),bs[k]?=some (some (Bo.v i))→bs[k']?=some (some (Bo.v i))→k=k'):En K ⟨F,H,ownOf Γ σ bs⟩ F σc H (fA Γ bs):=by
 have held:∀ {k d},Hld (fA Γ bs) k d→∃ i p,bs[k]?=some (some (Bo.v i))∧Hld Γ i d∧σ[i]?=some (some (V.ref p))∧σc[k]?=some (some (V.ref p)):=fun {k d} q=>by
  rcases q with q | q
  ·obtain⟨bo,h1,h2⟩:=jZ.mp q
   exact absurd h2 xi
  ·obtain⟨bo,h1,h2⟩:=jZ.mp q
   obtain⟨v,h3,h4⟩:=hσ k bo _ h1 h2
   obtain⟨i,rfl,h5⟩:=GQ h2
   obtain⟨p,h6,_⟩:=e.hl i d h5
   rw[show σ[i]?=some (some v) from h4] at h6;cases h6
   exact⟨i,p,h1,h5,h4,h3⟩
 refine⟨e.sub,by unfold fA;rw[List.length_map];exact hl,?_,?_,?_,?_,?_,?_,aL.refl F,fun b o h=>.inl h,fun b o h _=>h,fun b h=>h⟩
 ·intro k d q
  obtain⟨bo,h1,h2⟩:=jZ.mp q
  obtain⟨v,h3,h4⟩:=hσ k bo _ h1 h2
  refine⟨v,h3,?_⟩
  rcases GR h2 with rfl | ⟨i,rfl,h5⟩
  ·exact h4
  ·obtain⟨u,h6,h7⟩:=e.fz i d h5
   rw[show σ[i]?=some (some v) from h4] at h6;cases h6
   exact h7
 ·intro k d q
  obtain⟨i,p,h1,h2,h3,h4⟩:=held q
  obtain⟨p',h5,h6,h7⟩:=e.hl i d h2
  rw[h3] at h5;cases h5
  exact⟨p,h4,h6,h7⟩
 ·intro k d p q
  obtain⟨bo,h1,h2⟩:=jZ.mp q
  exact absurd h2 xi
 ·intro k d p q a
  obtain⟨i,p',h1,h2,h3,h4⟩:=held (.inr q)
  rw[a] at h4;cases h4
  exact mW.mpr ⟨i,d,h1,h2,h3⟩
 ·intro k k' d d' p q1 q2 a1 a2
  obtain⟨i,p1,h1,h2,h3,h4⟩:=held q1
  obtain⟨i',p2,h1',h2',h3',h4'⟩:=held q2
  rw[a1] at h4;cases h4
  rw[a2] at h4';cases h4'
  have:=e.dis i i' d d' p h2 h2' h3 h3'
  subst this
  exact nd k k' i h1 h1'
 ·intro k p q
  obtain⟨i,d,h1,h2,h3⟩:=mW.mp q
  have ha:jY Γ (.v i)=some (.ln d):=by
   show fI Γ[i]?=_
   rcases h2 with h2 | h2 <;> rw[h2] <;> rfl
  obtain⟨v,h4,h5⟩:=hσ k _ _ h1 ha
  rw[show σ[i]?=some (some v) from h5] at h3;cases h3
  exact⟨h4,d,jZ.mpr ⟨_,h1,ha⟩⟩
theorem sv {bs:List (Option Bo)}:∀ k p,(k,p)∈ownOf Γ σ bs→∃ j d,(bs.map dz)[k]?=some (some j)∧Hld Γ j d∧σ[j]?=some (some (V.ref p)):=fun k p h=>by
 obtain⟨i,d,h1,h2,h3⟩:=mW.mp h
 exact⟨i,d,by rw[List.getElem?_map,h1];rfl,h2,h3⟩
def jb (fr:List (Option Nat)):List (Option Bo):=fr.map fun o=>o.map Bo.v
def tG (fr:List (Option Nat)) (i3:TI3) (g3:TG3) (e3:TE3) (Γ:G) (Q:RV→G→Prop):Prop:=i3 Γ fun xs Γ1=>xs.length < sizeLine∧∃ Iv:Nat→List D→G→Prop,Iv 0 [] (fA Γ1 (jb fr))∧
 (∀ k d ys Γc,xs[k]?=some d→ys.length=k→Iv k ys Γc→g3 d Γc fun Γ2=>e3 Γ2 fun r Γ3=>Iv (k + 1) (ys++[r.d]) Γ3)∧∀ ys Γc,ys.length=xs.length→Iv xs.length ys Γc→Q (.fr (.lst ys)) (cm fr Γ1 Γc)
theorem EJ {fr:List (Option Nat)} (h:(fr.filterMap id).Nodup):∀ (k k' i:Nat),(jb fr)[k]?=some (some (Bo.v i))→(jb fr)[k']?=some (some (Bo.v i))→k=k':=by
 unfold jb
 have go:∀ (l:List (Option Nat)),(l.filterMap id).Nodup→∀ (k k' i:Nat),l[k]?=some (some i)→l[k']?=some (some i)→k=k':=by
  intro l
  induction l with
  | nil=>intro _ k k' i h;simp at h
  | cons o l ih=>
   intro hn k k' i h h'
   cases o with
   | none=>
    rw[List.filterMap_cons_none rfl] at hn
    cases k with
    | zero=>simp at h
    | succ k=>
     cases k' with
     | zero=>simp at h'
     | succ k'=>rw[ih hn k k' i (by simpa using h) (by simpa using h')]
   | some j=>
    rw[show List.filterMap id (some j::l)=j::List.filterMap id l from rfl,List.nodup_cons] at hn
    have mem:∀ {k:Nat},l[k]?=some (some i)→i∈l.filterMap id:=fun q=>List.mem_filterMap.mpr ⟨some i,List.mem_of_getElem? q,rfl⟩
    cases k with
    | zero=>
     simp at h;subst h
     cases k' with
     | zero=>rfl
     | succ k'=>exact absurd (mem (by simpa using h')) hn.1
    | succ k=>
     cases k' with
     | zero=>
      simp at h';subst h'
      exact absurd (mem (by simpa using h)) hn.1
     | succ k'=>rw[ih hn.2 k k' i (by simpa using h) (by simpa using h')]
 intro k k' i h1 h2
 refine go fr h k k' i ?_ ?_
 ·rw[List.getElem?_map] at h1
  cases q:fr[k]? with
  | none=>rw[q] at h1;cases h1
  | some o=>rw[q] at h1;cases o with | none=>cases h1 | some j=>cases h1;rfl
 ·rw[List.getElem?_map] at h2
  cases q:fr[k']? with
  | none=>rw[q] at h2;cases h2
  | some o=>rw[q] at h2;cases o with | none=>cases h2 | some j=>cases h2;rfl
theorem yj {fr:List (Option Nat)}:(jb fr).map dz=fr:=by
 unfold jb
 rw[List.map_map]
 conv=>rhs;rw[← List.map_id fr]
 refine List.map_congr_left fun o _=>?_
 cases o <;> rfl
theorem En.blk (e:En K B F σ H Γ) {fr:List (Option Nat)} (nd:(fr.filterMap id).Nodup):En K ⟨F,H,ownOf Γ σ (jb fr)⟩ F (mB fr σ) H (fA Γ (jb fr)):=by
 refine e.inner (by unfold mB jb;simp) (fun k bo s h1 h2=>?_) (EJ nd)
 unfold jb at h1
 rw[List.getElem?_map] at h1
 cases q:fr[k]? with
 | none=>rw[q] at h1;cases h1
 | some o=>
  rw[q] at h1
  cases o with
  | none=>cases h1
  | some j=>
   cases h1
   have:∃ d,Gat Γ j=some d:=by
    change fI Γ[j]?=_ at h2
    unfold fI at h2
    unfold Gat
    split at h2 <;> first | (cases h2;done) | (rename_i w;rw[w];exact⟨_,rfl⟩) | exact⟨_,rfl⟩
   obtain⟨d,hd⟩:=this
   obtain⟨v,hv,_⟩:=e.get hd
   refine⟨v,?_,hv⟩
   unfold mB
   rw[List.getElem?_map,q]
   simp [hv]
theorem xI {fr:List (Option Nat)} {wi:TI} {i3:TI3} {g:TG} {g3:TG3} {te:TE} {e3:TE3} (nd:(fr.filterMap id).Nodup) (hi:G0 K wi i3) (hg:ET K g g3) (he:Ref K te e3):Ref K (xv fr wi g te) (tG fr i3 g3 e3):=by
 intro B F σ H Γ Q QQ e q k
 refine hi B F σ H Γ _ _ e q fun J H1 F1 Γ1 xs s1 e1 R ⟨hz,Iv,i0,it,ie⟩=>?_
 have eb:=e1.blk nd
 refine⟨fun i m ys σc H=>m=xs.length - i∧i≤xs.length∧∃ F' Γc ds,aL F1 F'∧En K ⟨F1,H1,ownOf Γ1 σ (jb fr)⟩ F' σc H Γc∧aF K F' ds ys∧ds.length=i∧Iv i ds Γc,⟨_,rfl,Nat.zero_le _,F1,_,[],aL.refl _,eb,rfl,rfl,i0⟩,?_⟩
 rintro i m ys σc H2 ⟨rfl,hi',F2,Γ2,ds,s2,e2,r2,hl,iv⟩
 refine⟨by rw[r2.length,hl];omega,?_⟩
 by_cases lt:i < xs.length
 ·refine .inr ⟨R.go i H2 (s2.trans e2.sub) lt,fun x H3 y=>?_⟩
  have hd:xs[i]?=some xs[i]:=List.getElem?_eq_getElem lt
  obtain⟨F3,s3,e3',r3⟩:=R.turn s2 e2 hd y
  refine hg _ F3 σc H3 Γ2 x _ _ _ e3' r3 (it i _ ds Γ2 hd hl iv) fun σ2 Γ4 e4 q4=>?_
  refine⟨fun y H5=>∃ F5 Γ5 r,aL F3 F5∧En K ⟨F1,H1,ownOf Γ1 σ (jb fr)⟩ F5 σ2 H5 Γ5∧mJ K ⟨F1,H1,ownOf Γ1 σ (jb fr)⟩ F5 σ2 H5 Γ5 y r∧Iv (i + 1) (ds++[r.d]) Γ5,fun y H5 ⟨F5,Γ5,r,s5,e5,rv,iv5⟩=>?_,he _ F3 σ2 H3 Γ4 _ _ e4 q4 fun v H' p=>p⟩
  obtain⟨F6,s6,e6,r6⟩:=e5.frozen rv
  refine⟨xs.length - (i + 1),by omega,rfl,lt,F6,Γ5,ds++[r.d],((s2.trans s3).trans s5).trans s6,e6,?_,by simp [hl],iv5⟩
  exact aF.append (ys:=[r.d]) (r2.mono ((s3.trans s5).trans s6)) ⟨y,[],rfl,r6,rfl⟩
 ·have z:i=xs.length:=by omega
  subst z
  refine .inl ⟨R.stop _ H2 (s2.trans e2.sub) rfl,fun l hl'=>k _ _ ?_⟩
  have eo:En K B F2 σ H2 (cm fr Γ1 Γ2):=e1.back (ls:=fr) e2 (by have:=sv (Γ:=Γ1) (σ:=σ) (bs:=jb fr);rw[yj] at this;exact this)
  exact Po.mono (s1.trans s2) (mS eo hl' r2 (ie ds Γ2 hl iv))
theorem mV {elt iter tg:Expr} {sc:Scope} {Nc:List Str} {fr:List (Option Nat)} {wi:TI} {i3:TI3} {g:TG} {g3:TG3} {te:TE} {e3:TE3} (hc:X.calm=true) (hi:P3I K X tg iter wi i3) (Bk:Blk X.N X.env.scope sc Nc fr)
  (hg:∀ s₀ H₀ C ex pn,P3G K (bS X sc Nc s₀ H₀ C ex pn) tg g g3) (he:∀ s₀ H₀ C ex pn,P3 K (bS X sc Nc s₀ H₀ C ex pn) elt te e3) (nd:(fr.filterMap id).Nodup:=by decide) (hs:∀ x,foldedSetIterable iter X.env x=pure x:=by intro _;rfl) :
  P3 K X (.ListComp elt [⟨tg,iter,[],0⟩] sc pos) (xv fr wi g te) (tG fr i3 g3 e3):=
 ⟨FF hc hi.pe Bk (fun a b c d e=>(hg a b c d e).pe) (fun a b c d e=>(he a b c d e).pe) hs,xI nd hi.rf (hg X.s₀ X.H₀ 0 [] []).rf (he X.s₀ X.H₀ 0 [] []).rf⟩
theorem fm {i:Nat} {x:Str} {px spos:Pos} {elt iter tg:Expr} {sc:Scope} {Nc:List Str} {fr:List (Option Nat)} {wi:TI} {i3:TI3} {g:TG} {g3:TG3} {te:TE} {e3:TE3} (hN:X.N.Nodup) (hi':X.N[i]?=some x) (hx:X.env.scope.names.lookup x=some .local)
  (hc:X.calm=true) (hi:P3I K X tg iter wi i3) (Bk:Blk X.N X.env.scope sc Nc fr)
  (hg:∀ s₀ H₀ C ex pn,P3G K (bS X sc Nc s₀ H₀ C ex pn) tg g g3) (he:∀ s₀ H₀ C ex pn,P3 K (bS X sc Nc s₀ H₀ C ex pn) elt te e3) (nd:(fr.filterMap id).Nodup:=by decide)
  (hsw:swapsWith (.ListComp elt [⟨tg,iter,[],0⟩] sc pos) (some (.Name x px)) spos.line X.env=pure true:=by rfl) (hs:∀ x,foldedSetIterable iter X.env x=pure x:=by intro _;rfl) :
  P3S K X (.Assign [.Name x px] (.ListComp elt [⟨tg,iter,[],0⟩] sc pos) spos) (t6 (xv fr wi g te) (nE i)) (CD i (tG fr i3 g3 e3)):=
 ⟨y7 hN hi' hx hc hi.pe Bk (fun a b c d e=>(hg a b c d e).pe) (fun a b c d e=>(he a b c d e).pe) hsw hs,An (xI nd hi.rf (hg X.s₀ X.H₀ 0 [] []).rf (he X.s₀ X.H₀ 0 [] []).rf)⟩
abbrev S3:=G→(RV→G→Prop)→Prop
def sp3 (K:PySem.W.Frag) (n:Nat) (S:S3):Sp:=fun vs H Q _=>vs.length=n∧∃ F own Γa Q3,En K ⟨F,H,own⟩ F (vs.map some) H Γa∧(∀ (k:Nat) (d:D),Γa[k]?≠some (some (Sl.ow d)))∧S Γa Q3∧∀ r Γ',Q3 r Γ'→∀ v H' F',En K ⟨F,H,own⟩ F' (vs.map some) H' Γ'→mJ K ⟨F,H,own⟩ F' (vs.map some) H' Γ' v r→Q v H'
def ej:List Bo→List Nat
 | []=>[]
 | .d _::bs=>ej bs
 | .v i::bs=>i::ej bs
def tI (n:Nat) (S:S3) (t3:j4) (Γ:G) (Q:RV→G→Prop):Prop:=t3 Γ fun bs Γ1=>bs.length=n∧(ej bs).Nodup∧S (fA Γ1 (bs.map some)) fun r Γa=>Q r (cm ((bs.map some).map dz) Γ1 Γa)
theorem DR:∀ {bs:List Bo},(ej bs).Nodup→∀ (k k' i:Nat),(bs.map some)[k]?=some (some (Bo.v i))→(bs.map some)[k']?=some (some (Bo.v i))→k=k':=by
 intro bs h k k' i h1 h2
 have key:((((bs.map some).map dz)).filterMap id)=ej bs:=by
  clear h h1 h2
  induction bs with
  | nil=>rfl
  | cons b bs ih=>cases b with
   | d x=>simpa [dz,ej] using ih
   | v j=>simpa [dz,ej] using ih
 rw[← key] at h
 refine EJ h k k' i ?_ ?_
 ·unfold jb
  rw[List.getElem?_map,List.getElem?_map,h1];rfl
 ·unfold jb
  rw[List.getElem?_map,List.getElem?_map,h2];rfl
theorem de.get {F:Hp}:∀ {bs:List Bo} {vs:List V},de K F σ bs vs→∀ {k:Nat} {bo:Bo},bs[k]?=some bo→∃ v,vs[k]?=some v∧qM K F σ bo v
 | [],_,_,k,bo,e=>by simp at e
 | x::xs,_,⟨v,ws,h1,h2,h3⟩,0,d,e=>by subst h1;simp at e;subst e;exact⟨v,rfl,h2⟩
 | x::xs,_,⟨v,ws,h1,h2,h3⟩,i + 1,d,e=>by
  subst h1
  obtain⟨u,a,b⟩:=de.get h3 (k:=i) (bo:=d) (by simpa using e)
  exact⟨u,by simpa using a,b⟩
theorem de.length {F:Hp}:∀ {bs:List Bo} {vs:List V},de K F σ bs vs→vs.length=bs.length
 | [],_,h=>by cases h;rfl
 | _::_,_,⟨v,ws,h1,h2,h3⟩=>by subst h1;simp [de.length h3]
theorem En.args (e:En K B F σ H Γ) {bs:List Bo} {vs:List V} (r:de K F σ bs vs) (nd:(ej bs).Nodup):En K ⟨F,H,ownOf Γ σ (bs.map some)⟩ F (vs.map some) H (fA Γ (bs.map some)):=by
 refine e.inner (by simp [r.length]) (fun k bo s h1 h2=>?_) (DR nd)
 rw[List.getElem?_map] at h1
 cases q:bs[k]? with
 | none=>rw[q] at h1;cases h1
 | some b=>
  rw[q] at h1;cases h1
  obtain⟨v,a,b⟩:=r.get q
  exact⟨v,by rw[List.getElem?_map,a];rfl,b⟩
theorem En.called (e:En K B F σ H Γ) {F' H':Hp} {bs:List (Option Bo)} {σc:L2.St} {Γa:G} {v:V} {r:RV} (e2:En K ⟨F,H,ownOf Γ σ bs⟩ F' σc H' Γa) (rv:mJ K ⟨F,H,ownOf Γ σ bs⟩ F' σc H' Γa v r) :
  aL F F'∧En K B F' σ H' (cm (bs.map dz) Γ Γa)∧mJ K B F' σ H' (cm (bs.map dz) Γ Γa) v r:=by
 have eo:=e.back e2 sv
 refine⟨e2.keep,eo,?_⟩
 cases r with
 | fz d=>exact rv
 | fr d=>
  obtain⟨p,h1,h2,h3,h4,h5⟩:=rv
  have h4':H p=none:=h4
  refine⟨p,h1,h2,h3,e.dom p h4',fun i x hx hp=>?_⟩
  obtain⟨d0,w⟩:∃ d0,Hld Γ i d0:=by
   rcases hx with hx | hx <;> rw[eQ] at hx
   ·cases w:Γ[i]? with
    | none=>rw[w] at hx;cases hx
    | some s=>rw[w] at hx;cases s with
     | none=>cases hx
     | some s=>cases s with
      | fz d=>cases hx
      | ow d=>exact⟨d,.inl w⟩
      | ln d=>cases hx
   ·cases w:Γ[i]? with
    | none=>rw[w] at hx;cases hx
    | some s=>rw[w] at hx;cases s with
     | none=>cases hx
     | some s=>cases s with
      | fz d=>cases hx
      | ow d=>cases hx
      | ln d=>exact⟨d,.inr w⟩
  obtain⟨p',a,b,c⟩:=e.hl i d0 w
  rw[hp] at a;cases a
  obtain⟨o,ho⟩:=c.some
  rw[h4'] at ho;cases ho
theorem xJ {t:TA} {t3:j4} {S:S3} {n:Nat} {E:XK} (h:Ba K t t3):Ref K (rR (sp3 K n S) [] E t) (tI n S t3):=by
 intro B F σ H Γ Q QQ e q k
 refine h B F σ H Γ _ _ e q fun vs H1 ⟨F1,Γ1,bs,s1,e1,r1,hn,nd,q1⟩=>?_
 show sp3 K n S (vs++[]) H1 QQ E
 rw[List.append_nil]
 refine⟨by rw[r1.length];exact hn,F1,_,_,_,e1.args r1 nd,rL,q1,fun r Γa q v H' F' e2 rv=>?_⟩
 obtain⟨a,b,c⟩:=e1.called e2 rv
 exact k v H' ⟨F',_,r,s1.trans a,b,c,q⟩
def m5 (Γa Γ':G):G:=Γa.mapIdx fun k s=>match s with
 | some (.ln d)=>(match Γ'[k]? with
  | some (some (.ln d'))=>some (.ln d')
  | _=>some (.ln d))
 | s=>s
theorem FT {Γa Γ':G} {k:Nat} {d:D} (h:Γa[k]?=some (some (Sl.ln d))) {d':D} (h':Γ'[k]?=some (some (Sl.ln d'))):(m5 Γa Γ')[k]?=some (some (Sl.ln d')):=by
 unfold m5
 rw[List.getElem?_mapIdx,h]
 simp [h']
theorem oK {Γa Γ':G} {k:Nat} {s:Sl} (h:(m5 Γa Γ')[k]?=some (some s)):(∃ d d',Γa[k]?=some (some (Sl.ln d))∧s=.ln d')∨(Γa[k]?=some (some s)∧∀ d,s≠.ln d):=by
 unfold m5 at h
 rw[List.getElem?_mapIdx] at h
 cases w:Γa[k]? with
 | none=>rw[w] at h;cases h
 | some o=>
  rw[w] at h
  cases o with
  | none=>cases h
  | some s'=>
   cases s' with
   | fz d=>cases h;exact .inr ⟨rfl,fun d z=>by cases z⟩
   | ow d=>cases h;exact .inr ⟨rfl,fun d z=>by cases z⟩
   | ln d=>
    left
    simp only[Option.map_some,Option.some.injEq] at h
    split at h
    ·cases h;exact⟨d,_,rfl,rfl⟩
    ·cases h;exact⟨d,_,rfl,rfl⟩
theorem En.out {F0 H0 F' H':Hp} {own:List (Nat×Addr)} {σa σ':L2.St} {Γa Γ':G} (e0:En K ⟨F0,H0,own⟩ F0 σa H0 Γa) (hno:∀ (k:Nat) (d:D),Γa[k]?≠some (some (Sl.ow d))) (e1:En K ⟨F0,H0,own⟩ F' σ' H' Γ') {v:V} {r:RV} (rv:mJ K ⟨F0,H0,own⟩ F' σ' H' Γ' v r) :
  En K ⟨F0,H0,own⟩ F' σa H' (m5 Γa Γ')∧mJ K ⟨F0,H0,own⟩ F' σa H' (m5 Γa Γ') v r:=by
 have lnk:∀ {k:Nat} {d:D},Γa[k]?=some (some (Sl.ln d))→∃ p d',(k,p)∈own∧σa[k]?=some (some (V.ref p))∧σ'[k]?=some (some (V.ref p))∧Γ'[k]?=some (some (Sl.ln d'))∧(m5 Γa Γ')[k]?=some (some (Sl.ln d')):=fun {k d} h=>by
  obtain⟨p,a,b,c⟩:=e0.hl k d (.inr h)
  have m:=e0.ln k d p h a
  obtain⟨a',d',b'⟩:=e1.par k p m
  exact⟨p,d',m,a,a',b',FT h b'⟩
 have hld:∀ {k:Nat} {d:D},Hld (m5 Γa Γ') k d→∃ p d0,Γa[k]?=some (some (Sl.ln d0))∧(k,p)∈own∧σa[k]?=some (some (V.ref p))∧σ'[k]?=some (some (V.ref p))∧Γ'[k]?=some (some (Sl.ln d)):=fun {k d} h=>by
  rcases h with h | h
  ·rcases oK h with ⟨d1,d2,_,z⟩ | ⟨z,_⟩
   ·cases z
   ·exact absurd z (hno k d)
  ·rcases oK h with ⟨d1,d2,z,_⟩ | ⟨_,z⟩
   ·obtain⟨p,d',m,a,a',b',c'⟩:=lnk z
    rw[h] at c';cases c'
    exact⟨p,d1,z,m,a,a',b'⟩
   ·exact absurd rfl (z d)
 refine⟨⟨e1.sub,?_,?_,?_,?_,?_,?_,?_,e1.keep,e1.new,e1.rest,e1.dom⟩,?_⟩
 ·unfold m5;rw[List.length_mapIdx];exact e0.len
 ·intro k d q
  rcases oK q with ⟨d1,d2,_,z⟩ | ⟨z,_⟩
  ·cases z
  ·obtain⟨u,a,b⟩:=e0.fz k d z
   exact⟨u,a,b.mono e1.keep⟩
 ·intro k d q
  obtain⟨p,d0,_,m,a,a',b⟩:=hld q
  obtain⟨p',x,y,z⟩:=e1.hl k d (.inr b)
  rw[a'] at x;cases x
  exact⟨p,a,y,z⟩
 ·intro k d p q
  rcases oK q with ⟨d1,d2,_,z⟩ | ⟨z,_⟩
  ·cases z
  ·exact absurd z (hno k d)
 ·intro k d p q a
  obtain⟨p',d0,_,m,a',_⟩:=hld (.inr q)
  rw[a] at a';cases a'
  exact m
 ·intro k k' d d' p q1 q2 a1 a2
  obtain⟨p1,d1,z1,_⟩:=hld q1
  obtain⟨p2,d2,z2,_⟩:=hld q2
  exact e0.dis k k' d1 d2 p (.inr z1) (.inr z2) a1 a2
 ·intro k p q
  obtain⟨a,d,b⟩:=e0.par k p q
  obtain⟨p',d',m,a',_,_,c⟩:=lnk b
  exact⟨a,d',c⟩
 ·cases r with
  | fz d=>exact rv
  | fr d=>
   obtain⟨p,h1,h2,h3,h4,h5⟩:=rv
   refine⟨p,h1,h2,h3,h4,fun k x hx a=>?_⟩
   obtain⟨p',d0,_,m,a',b',c'⟩:=hld hx
   rw[a] at a';cases a'
   exact h5 k x (.inr c') b'
end
end L3
namespace L3
open PySem L2 PySem.Spec PyProof.Rows
def iI (N:List Str) (Γa:G):G:=Γa++List.replicate (N.length - Γa.length) none
section
variable {P:Program} {w:World} {K:PySem.W.Frag} {mg:Str→Option Value} {base:Heap}
theorem En.start {B:Bs} {F H:Hp} {vs:List V} {Γa:G} {N:List Str} (e:En K B F (vs.map some) H Γa) (hl:Γa.length≤N.length):En K B F (L2.start N vs) H (iI N Γa):=by
 have len:=e.len
 rw[List.length_map] at len
 have hs:∀ {i:Nat},i < Γa.length→(L2.start N vs)[i]?=(vs.map some)[i]?:=fun {i} h=>by
  unfold L2.start
  rw[List.getElem?_append_left (by rw[List.length_map];omega)]
 have hg:∀ {i:Nat} {s:Sl},(iI N Γa)[i]?=some (some s)→i < Γa.length∧Γa[i]?=some (some s):=fun {i s} h=>by
  unfold iI at h
  by_cases lt:i < Γa.length
  ·rw[List.getElem?_append_left lt] at h;exact⟨lt,h⟩
  ·rw[List.getElem?_append_right (by omega)] at h
   have:=List.mem_of_getElem? h
   rw[List.mem_replicate] at this
   cases this.2
 have hh:∀ {i:Nat} {d:D},Hld (iI N Γa) i d→i < Γa.length∧Hld Γa i d:=fun h=>by
  rcases h with h | h
  ·exact⟨(hg h).1,.inl (hg h).2⟩
  ·exact⟨(hg h).1,.inr (hg h).2⟩
 refine⟨e.sub,?_,?_,?_,?_,?_,?_,?_,e.keep,e.new,e.rest,e.dom⟩
 ·unfold L2.start iI
  simp only[List.length_append,List.length_map,List.length_replicate]
  omega
 ·intro i d q
  obtain⟨lt,q⟩:=hg q
  rw[hs lt];exact e.fz i d q
 ·intro i d q
  obtain⟨lt,q⟩:=hh q
  rw[hs lt];exact e.hl i d q
 ·intro i d p q a
  obtain⟨lt,q⟩:=hg q
  rw[hs lt] at a;exact e.ow i d p q a
 ·intro i d p q a
  obtain⟨lt,q⟩:=hg q
  rw[hs lt] at a;exact e.ln i d p q a
 ·intro i j d d' p q1 q2 a1 a2
  obtain⟨l1,q1⟩:=hh q1
  obtain⟨l2,q2⟩:=hh q2
  rw[hs l1] at a1
  rw[hs l2] at a2
  exact e.dis i j d d' p q1 q2 a1 a2
 ·intro i p q
  obtain⟨a,d,b⟩:=e.par i p q
  have lt:i < Γa.length:=(List.getElem?_eq_some_iff.mp b).1
  refine⟨by rw[hs lt];exact a,d,?_⟩
  unfold iI
  rw[List.getElem?_append_left lt];exact b
theorem ok3 {x qual:Str} {st:Stmt} {f:Addr} {fd:FuncData} {N ps:List Str} {k:Nat} {S:S3} (F:Fun K x qual st f fd) (Sc:ar N ps (ab st)) (hN:ps.length≤N.length:=by decide)
  (hbody:∀ (cdv:Value) (A:Around) (outer:List Env) (s:Shared) (H:Hp) (E:XK),eg k (A.deeper (envOfC qual (ab st) s.heap.objs.size f cdv))→
   ∃ t t3,yJ K (zX CX0 P w K mg base N qual (ab st) f cdv A outer s H E).nox (ah st) t t3∧∀ Γa Q,S Γa Q→Γa.length=ps.length→t3 { nx:=fun Γ'=>Q (.fz .non) (m5 Γa Γ'),rt:=fun r Γ'=>Q r (m5 Γa Γ') } (iI N Γa)) :
  aT P w K mg base CX0 (k + 1) f fd ps (sp3 K ps.length S):=by
 refine F.ok Sc (fun vs H Q E h=>h.1) fun cdv A outer s H vs Q E hr h=>?_
 obtain⟨hl,F0,own,Γa,Q3,e,hno,hS,hQ⟩:=h
 obtain⟨t,t3,ht,rd⟩:=hbody cdv A outer s H E hr
 have hla:Γa.length=ps.length:=by rw[← e.len,List.length_map];exact hl
 refine⟨t,ht.pe,ht.rf ⟨F0,H,own⟩ F0 _ H _ _ { nx:=fun Γ'=>Q3 (.fz .non) (m5 Γa Γ'),rt:=fun r Γ'=>Q3 r (m5 Γa Γ') } (e.start (N:=N) (by rw[hla];exact hN)) ⟨?_,?_,fun _ _ _ _ _ _ z=>False.elim z,fun _ _ _ _ _ _ z=>False.elim z⟩ (rd Γa Q3 hS hla)⟩
 ·intro F' σ' H' Γ' s' e' q
  obtain⟨a,b⟩:=e.out hno e' (v:=.non) (r:=.fz .non) rfl
  exact hQ _ _ q _ _ _ a b
 ·intro F' σ' H' Γ' v r s' e' rv q
  obtain⟨a,b⟩:=e.out hno e' rv
  exact hQ _ _ q _ _ _ a b
end
section
variable {K:PySem.W.Frag} {X:Cx} {k:Nat} {f C:Addr} {fd:FuncData} {ps:List Str} {x m:Str} {p pos apos:Pos} {e o:Expr} {es:List Expr} {ta:TE} {t:TA} {t3:j4} {o3:TB3} {n:Nat} {S:S3}
theorem ay (hK:X.K=K) (F:aT X.prog X.w X.K X.mg X.base CX0 k f fd ps (sp3 K n S)) (hr:eg k X.A) (hg:Gl X x) (hm:X.mg x=some (.ref f)) (hk:PySem.W.keepIn X.K (.ref f)=true) (hb:Binds X.K fd ps [])
  (ha:yK K X (e::es) t t3) (hdb:(x == ("__debug__":Str))=false:=by decide) (he:starEach (e::es) X.env=(false,eval e X.env)::starEach es X.env:=by rfl) (hpl:(backTo pos (starEach es X.env)).any (·.1)=false:=by rfl) :
  P3 K X (.Call (.Name x p) (e::es) [] pos) (rR (sp3 K n S) [] E0 t) (tI n S t3):=⟨Av F hr hg hm hk hb .nil uM ha.pe hdb he hpl,xJ ha.rf⟩
theorem Dp (hK:X.K=K) (F:aT X.prog X.w X.K X.mg X.base CX0 k f fd ps (sp3 K n S)) (hr:eg k X.A) (hg:Gl X x) (hm:X.mg x=some (.ref f)) (hk:PySem.W.keepIn X.K (.ref f)=true) (hb:Binds X.K fd ps [])
  (hdb:(x == ("__debug__":Str))=false:=by decide) :
  P3 K X (.Call (.Name x p) [] [] pos) (rR (sp3 K n S) [] E0 lA) (tI n S DA):=⟨Dg F hr hg hm hk hb .nil uM hdb,xJ (af (X:=X)).rf⟩
def ji (C:Addr) (m:Str) (n:Nat) (S:S3) (o3:TB3) (t3:j4) (Γ:G) (Q:RV→G→Prop):Prop:=o3 Γ fun x Γ1=>(∃ ns xs,x.at Γ1=some (.ins C ns xs)∧m∉ns)∧t3 Γ1 fun bs Γ2=>bs.length + 1=n∧(ej (x::bs)).Nodup∧S (fA Γ2 ((x::bs).map some)) fun r Γa=>Q r (cm (((x::bs).map some).map dz) Γ2 Γa)
theorem BR {ns:List Str}:∀ {gs:List (Str×V)} {m:Str},gs.map (·.1)=ns→m∉ns→gs.lookup m=none:=by
 induction ns with
 | nil=>intro gs m h _;cases gs with | nil=>rfl | cons=>cases h
 | cons a ns ih=>
  intro gs m h hn
  cases gs with
  | nil=>cases h
  | cons g gs=>
   simp only[List.map_cons,List.cons.injEq] at h
   obtain⟨rfl,h⟩:=h
   rw[List.mem_cons,not_or] at hn
   obtain⟨g1,g2⟩:=g
   rw[List.lookup_cons,show (m == g1)=false from beq_eq_false_iff_ne.mpr hn.1]
   exact ih h hn.2
theorem xG (ho:tS K ta o3) (ha:Ba K t t3):Ref K (xt C m (sp3 K n S) [] E0 ta t) (ji C m n S o3 t3):=by
 intro B F σ H Γ Q QQ e q kk
 refine ho B F σ H Γ _ _ e q fun v H0 ⟨F0,Γ0,bo,s0,e0,r0,⟨ns,xs,hx,hm⟩,q0⟩=>?_
 obtain⟨p,dx,gs,rfl,h1,h2,h3⟩:=e0.bo r0 hx
 refine⟨p,dx,gs,rfl,h1,BR h2 hm,ha B F0 σ H0 Γ0 _ _ e0 q0 fun vs H1 ⟨F1,Γ1,bs,s1,e1,r1,hn,nd,q1⟩=>?_⟩
 show sp3 K n S (V.ref p::(vs++[])) H1 QQ E0
 rw[List.append_nil]
 have rr:de K F1 σ (bo::bs) (V.ref p::vs):=⟨_,_,rfl,r0.mono s1,r1⟩
 refine⟨by rw[rr.length];exact hn,F1,_,_,_,e1.args rr nd,rL,q1,fun r Γa q v H' F' e2 rv=>?_⟩
 obtain⟨a,b,c⟩:=e1.called e2 rv
 exact kk v H' ⟨F',_,r,(s0.trans s1).trans a,b,c,q⟩
theorem aS {pl:Sem Bool} (hK:X.K=K) (he:P3B K X o ta o3) (c:Cls X.K C) (hm:Meth X.K C m f) (F:aT X.prog X.w X.K X.mg X.base CX0 k f fd ps (sp3 K n S)) (hr:eg k X.A) (hb:Binds X.K fd ps []) (ha:yK K X (e::es) t t3)
  (hst:starEach (e::es) X.env=(false,eval e X.env)::starEach es X.env:=by rfl) (hpl:(backTo pos (starEach es X.env)).any (·.1)=false:=by rfl)
  (ht:eval (.Call (.Attribute o m apos) (e::es) [] pos) X.env=(do
   let ov ← eval o X.env
   standAt apos.atName
   let (f,first) ← holding [ov] (getMethod ov m pl)
   callWith pos f first (backTo pos (starEach (e::es) X.env)) (backToKw pos (keywordEach [] X.env))):=by rfl) :
  P3 K X (.Call (.Attribute o m apos) (e::es) [] pos) (xt C m (sp3 K n S) [] E0 ta t) (ji C m n S o3 t3):=⟨FC he.pe c hm F hr hb .nil uM ha.pe hst hpl ht,xG he.rf ha.rf⟩
theorem aE {pl:Sem Bool} (hK:X.K=K) (he:P3B K X o ta o3) (c:Cls X.K C) (hm:Meth X.K C m f) (F:aT X.prog X.w X.K X.mg X.base CX0 k f fd ps (sp3 K n S)) (hr:eg k X.A) (hb:Binds X.K fd ps [])
  (ht:eval (.Call (.Attribute o m apos) [] [] pos) X.env=(do
   let ov ← eval o X.env
   standAt apos.atName
   let (f,first) ← holding [ov] (getMethod ov m pl)
   callWith pos f first (backTo pos (starEach [] X.env)) (backToKw pos (keywordEach [] X.env))):=by rfl) :
  P3 K X (.Call (.Attribute o m apos) [] [] pos) (xt C m (sp3 K n S) [] E0 ta lA) (ji C m n S o3 DA):=⟨C9 he.pe c hm F hr hb .nil uM ht,xG he.rf (af (X:=X)).rf⟩
theorem P3.or {e:Expr} {t t':TE} {a3 b3:TE3} (h:P3 K X e t a3) (h':P3 K X e t' b3):P3 K X e (fun σ H Q=>t σ H Q∨t' σ H Q) (fun Γ Q=>a3 Γ Q∨b3 Γ Q):=
 ⟨fun pins s σ H Q I q=>q.elim (h.pe pins s σ H Q I) (h'.pe pins s σ H Q I),fun B F σ H Γ Q QQ e q k=>q.imp (fun q=>h.rf B F σ H Γ Q QQ e q k) (fun q=>h'.rf B F σ H Γ Q QQ e q k)⟩
theorem mU (M:Mk0 X.K C) (hg:Gl X x) (hm:X.mg x=some (.ref C)) (hdb:(x == ("__debug__":Str))=false:=by decide):P3 K X (.Call (.Name x p) [] [] pos) (Ai C) (fun Γ Q=>Q (.fr (.ins C [] [])) Γ):=
 ⟨BB M hg hm hdb,fun B F σ H Γ Q QQ e q k=>fun y dy hy hdy ne=>k _ _ (by
  have e1:=e.alloc hdy (.own y)
  have hy':(upd H dy (.own y)) y=none:=by rw[au (Ne.symm ne)];exact hy
  exact⟨F,Γ,.fr (.ins C [] []),aL.refl F,e1.alloc hy' _,⟨y,rfl,e1.nof hy',⟨dy,[],aN,rfl,rfl⟩,e.dom _ hy,e1.BG hy'⟩,q⟩)⟩
end
end L3
namespace L3
open PySem L2 PySem.Spec
section
variable {K:PySem.W.Frag} {X:Cx} {B:Bs} {F H:Hp} {σ:L2.St} {Γ:G} {pos p:Pos} {x:Str}
theorem qy {n:String} (hg:Gl X x) (hm:X.mg x=none) (hv:bootBuiltins x=some (.type n)) (hn:x≠"__name__":=by decide) (hd:(x == ("__debug__":Str))=false:=by decide):P3 K X (.Name x pos) (tC (.ty n)) (t3C (.ty n)):=
 ⟨FH (v:=.ty n) hg hm hv rfl hn hd,uK fun _=>rfl⟩
theorem r_ (i:Nat) {y:Str} {px p2:Pos} {k e:Expr} {tk te:TE} {k3:TB3} {e3:TE3} (hx:P3B K X (.Name y px) (dO i) (bor i)) (hk:P3B K X k tk k3) (he:P3 K X e te e3)
  (ha:∀ v,assign (.Subscript (.Name y px) k p2) X.env v=(do
   let ov ← holding [v] (eval (.Name y px) X.env)
   let iv ← holding [v,ov] (eval k X.env)
   standAt p2
   holding [v,ov,iv] (setItem ov iv v)
   release [v,ov,iv] []):=by intro _;rfl)
  (hs:swapsWithSole [.Subscript (.Name y px) k p2] e pos.line X.env=pure false:=by rfl) (hw:swappedStores [.Subscript (.Name y px) k p2] e X.env=pure none:=by rfl)
  (h1:(assignEach [.Subscript (.Name y px) k p2] X.env).map (·.2)=[assign (.Subscript (.Name y px) k p2) X.env]:=by rfl) :
  P3S K X (.Assign [.Subscript (.Name y px) k p2] e pos) (t6 te (Gv (dO i) tk Ap)) (Ak i k3 e3):=Fe i hx hk he (C5 he.pe (Im hx.pe hk.pe set_list ha) hs hw h1)
theorem En.grow (e:En K B F σ H Γ) {H':Hp} (s:aL H H') (S:Addr) (hS:H S=none):∃ F',aL F F'∧En K B F' σ H' Γ∧F' S=none∧∀ b o,b≠S→H b=none→H' b=some o→F' b=some o:=by
 refine⟨fun b=>if H b=none∧b≠S then H' b else F b,?_,?_,?_,?_⟩
 ·intro b o h
  show (if _ then _ else _)=_
  have:=e.sub b o h
  rw[if_neg (by rw[this];simp)];exact h
 ·refine⟨?_,e.len,?_,?_,e.ow,e.ln,e.dis,e.par,?_,?_,fun b o h n=>s b o (e.rest b o h n),fun b h=>e.dom b (s.free h)⟩
  ·intro b o h
   change (if _ then _ else _)=_ at h
   split at h
   ·exact h
   ·exact s b o (e.sub b o h)
  ·intro i d h
   obtain⟨v,a,b⟩:=e.fz i d h
   refine⟨v,a,b.mono fun b o h=>?_⟩
   show (if _ then _ else _)=_
   have:=e.sub b o h
   rw[if_neg (by rw[this];simp)];exact h
  ·intro i d h
   obtain⟨q,a,b,c⟩:=e.hl i d h
   obtain⟨o,ho⟩:=c.some
   refine⟨q,a,?_,c.mono (fun b o h=>?_) (by rw[ho];exact s _ _ ho)⟩
   ·show (if _ then _ else _)=_
    rw[if_neg (by rw[ho];simp)];exact b
   ·show (if _ then _ else _)=_
    have:=e.sub b o h
    rw[if_neg (by rw[this];simp)];exact h
  ·intro b o h
   have h':=e.keep b o h
   show (if _ then _ else _)=_
   have:=e.sub b o h'
   rw[if_neg (by rw[this];simp)];exact h'
  ·intro b o h
   change (if _ then _ else _)=_ at h
   split at h
   ·rename_i q;exact .inr (e.dom b q.1)
   ·exact e.new b o h
 ·show (if _ then _ else _)=_
  rw[if_neg (by simp)];exact e.nof hS
 ·intro b o n h h'
  show (if _ then _ else _)=_
  rw[if_pos ⟨h,n⟩];exact h'
def lz3 (t3:j4) (Γ:G) (Q:RV→G→Prop):Prop:=t3 Γ fun bs Γ1=>∃ xs ys,ats Γ1 bs=some [.lst xs,.lst ys]∧min xs.length ys.length < sizeLine∧Q (.fr (.lst (ir xs ys))) Γ1
theorem Am {F:Hp}:∀ {ds:List D} {vs:List V},vs.length=ds.length→(∀ (i:Nat) d v,ds[i]?=some d→vs[i]?=some v→Rep K F d v)→aF K F ds vs
 | [],vs,h,_=>by cases vs with | nil=>rfl | cons=>simp at h
 | d::ds,vs,h,k=>by
  cases vs with
  | nil=>simp at h
  | cons v vs=>exact⟨v,vs,rfl,k 0 d v rfl rfl,Am (by simpa using h) fun i d v h1 h2=>k (i + 1) d v (by simpa using h1) (by simpa using h2)⟩
theorem rM {xs ys:List D}:(ir xs ys).length=min xs.length ys.length:=by unfold ir;rw[List.length_map,List.length_zip]
theorem zf {a b:Expr} {ta:TA} {t3:j4} {p p2 pos pos2:Pos} (hc:X.calm=true) (hg:Gl X "list") (hm:X.mg "list"=none) (hg2:Gl X "zip") (hm2:X.mg "zip"=none) (ha:yK K X [a,b] ta t3)
  (hs:starEach [a,b] X.env=[(false,eval a X.env),(false,eval b X.env)]:=by rfl) (hs2:starEach [b] X.env=[(false,eval b X.env)]:=by rfl) (hs3:starEach [Expr.Call (.Name "zip" p2) [a,b] [] pos2] X.env=[(false,eval (.Call (.Name "zip" p2) [a,b] [] pos2) X.env)]:=by rfl) :
  P3 K X (.Call (.Name "list" p) [.Call (.Name "zip" p2) [a,b] [] pos2] [] pos) (xu ta) (lz3 t3):=⟨zb hc hg hm hg2 hm2 ha.pe hs hs2 hs3,by
 intro B F σ H Γ Q QQ e q k
 refine ha.rf B F σ H Γ _ _ e q fun vs H1 ⟨F1,Γ1,bs,s1,e1,r0,xs,ys,hd,hz,q1⟩=>?_
 obtain⟨v,w,rfl,⟨p1,vs1,rfl,g1,r1⟩,⟨p2,vs2,rfl,g2,r2⟩⟩:=(e1.bos r0 hd).two
 refine⟨p1,p2,vs1,vs2,rfl,g1,g2,by rw[r1.length,r2.length];exact hz,fun S ts H' hS sm h1 h2 h3 h4=>k _ _ ?_⟩
 obtain⟨F2,s2,e2,f2,g⟩:=e1.grow sm S hS
 have hS':∀ t∈ts,t≠S:=fun t ht z=>by
  subst z
  obtain⟨j,hj,hjt⟩:=List.getElem_of_mem ht
  have hx:j < vs1.length:=by rw[h2] at hj;omega
  have hy:j < vs2.length:=by rw[h2] at hj;omega
  have:=h3 j t _ _ (by rw[← hjt];exact List.getElem?_eq_getElem hj) (List.getElem?_eq_getElem hx) (List.getElem?_eq_getElem hy)
  rw[h1] at this;cases this
 refine⟨F2,Γ1,.fr (.lst (ir xs ys)),s1.trans s2,e2,⟨S,rfl,f2,⟨_,h1,?_⟩,e1.dom _ hS,e1.BG hS⟩,q1⟩
 refine Am (by rw[List.length_map,h2,rM,r1.length,r2.length]) fun i d v hd hv=>?_
 obtain⟨dx,dy,hx,hy,rfl⟩:=jK hd
 rw[List.getElem?_map] at hv
 cases ht:ts[i]? with
 | none=>rw[ht] at hv;cases hv
 | some t=>
  rw[ht] at hv;cases hv
  obtain⟨v,hv,rv⟩:=r1.get hx
  obtain⟨w,hw,rw'⟩:=r2.get hy
  have m:=List.mem_of_getElem? ht
  exact⟨t,_,rfl,g t _ (hS' t m) (h4 t m) (h3 i t v w ht hv hw),⟨_,_,rfl,rv.mono s2,_,_,rfl,rw'.mono s2,rfl⟩⟩⟩
theorem ox {ls:List (Option Nat)} {cs:G} (h:ls.all (·.isNone)=true):cm ls Γ cs=Γ:=by
 have hn:∀ j,newD ls cs j=none:=by
  intro j
  cases q:newD ls cs j with
  | none=>rfl
  | some d=>
   obtain⟨k,a,_⟩:=jM q
   have:=List.all_eq_true.mp h _ (List.mem_of_getElem? a)
   cases this
 refine List.ext_getElem? fun i=>?_
 rw[eQ,hn]
 cases q:Γ[i]? with
 | none=>rfl
 | some s=>cases s with
  | none=>rfl
  | some s=>cases s <;> rfl
end
end L3
namespace L3
open PySem L2 PySem.Spec
theorem ER {α:Type} {a:α} {l:List α}:atI (a::l) 0=some a:=by
 unfold L2.atI ixN;simp
theorem EO {α:Type} {a b:α} {l:List α}:atI (a::b::l) 1=some b:=by
 have:ixN (a::b::l).length 1=some 1:=by
  unfold ixN;rw[if_pos (by decide),if_pos (by simp;omega)];rfl
 unfold L2.atI;rw[this];rfl
theorem EN {α:Type} {a b c:α} {l:List α}:atI (a::b::c::l) 2=some c:=by
 have:ixN (a::b::c::l).length 2=some 2:=by
  unfold ixN;rw[if_pos (by decide),if_pos (by simp;omega)];rfl
 unfold L2.atI;rw[this];rfl
theorem EM {α:Type} {a b c d:α} {l:List α}:atI (a::b::c::d::l) 3=some d:=by
 have:ixN (a::b::c::d::l).length 3=some 3:=by
  unfold ixN;rw[if_pos (by decide),if_pos (by simp;omega)];rfl
 unfold L2.atI;rw[this];rfl
theorem zI:ixN 3 0=some 0:=rfl
theorem zH:ixN 3 1=some 1:=rfl
theorem zG:ixN 3 2=some 2:=rfl
theorem jX {α:Type} {xs:List α} {k:Int} {d:α} (h:0≤k) (e:xs[k.toNat]?=some d):atI xs k=some d:=by
 obtain⟨j,rfl⟩:∃ j:Nat,k=(j:Int):=⟨k.toNat,by omega⟩
 exact GO (by simpa using e)
theorem A_ {ns:List Int} {k:Int} (h0:0≤k) (h1:k < (ns.length:Int)):atI (ns.map D.int) k=some (.int (ns.getD k.toNat 0)):=by
 refine jX h0 ?_
 have:k.toNat < ns.length:=by omega
 rw[List.getElem?_map,List.getElem?_eq_getElem this]
 simp [List.getD,this]
theorem GN {ns:List Int} {k:Int} (h0:0≤k) (h1:k < (ns.length:Int)):atI ns k=some (ns.getD k.toNat 0):=by
 refine jX h0 ?_
 have:k.toNat < ns.length:=by omega
 rw[List.getElem?_eq_getElem this]
 simp [List.getD,this]
theorem GP {α:Type} {xs:List α} {k:Int} (h0:0≤k) (h1:k < (xs.length:Int)):∃ d,atI xs k=some d∧d∈xs:=by
 have:k.toNat < xs.length:=by omega
 exact⟨xs[k.toNat],jX h0 (List.getElem?_eq_getElem this),List.getElem_mem this⟩
theorem i6 {ns:List Int} (h:1≤ns.length):atI (ns.map D.int) (-1)=some (.int (ns.getD (ns.length - 1) 0)):=by
 have e:ixN (ns.map D.int).length (-1)=some (ns.length - 1):=by
  unfold ixN
  rw[List.length_map,if_neg (by decide),if_pos (by omega)]
  congr 1
  omega
 unfold L2.atI
 rw[e]
 have:ns.length - 1 < ns.length:=by omega
 show (ns.map D.int)[ns.length - 1]?=_
 rw[List.getElem?_map,List.getElem?_eq_getElem this]
 simp [List.getD,this]
section
variable {K:PySem.W.Frag} {P:Program} {w:World} {mg:Str→Option Value} {base:Heap}
def Hf (n:Nat):S3:=fun Γ Q=>∃ ns:List Int,Γ=[some (.fz (.scr ns))]∧ns.length≤n∧∀ Γ',Q (.fz (.bl true)) Γ'
theorem IS {k n:Nat} {f:Addr} {fd:FuncData} {ps:List Str} (F:aT P w K mg base CX0 k f fd ps (sp3 K 1 (Hf n))) :
  aT P w K mg base CX0 k f fd ps (fun vs H Q _=>∃ (p:Addr) (ns:List Int),vs=[.ref p]∧SqL K H p (ns.map V.int)∧ns.length≤n∧∀ H',Q (.bl true) H'):=by
 refine F.imp fun vs H Q E h=>?_
 obtain⟨p,ns,rfl,hs,hn,q⟩:=h
 have go1:∀ {i:Nat} {s:Sl},([some (Sl.fz (.scr ns))]:G)[i]?=some (some s)→i=0∧s=.fz (.scr ns):=fun {i s} h=>by
  cases i with
  | zero=>cases h;exact⟨rfl,rfl⟩
  | succ i=>cases h
 refine⟨rfl,H,[],[some (.fz (.scr ns))],fun r _=>r=.fz (.bl true),⟨aL.refl H,rfl,?_,?_,?_,?_,?_,?_,aL.refl H,fun b o h=>.inl h,fun b o h _=>h,fun b h=>h⟩,?_,⟨ns,rfl,hn,fun _=>rfl⟩,?_⟩
 ·intro i d h
  obtain⟨rfl,e⟩:=go1 h
  cases e
  exact⟨_,rfl,p,rfl,hs⟩
 ·intro i d h
  rcases h with h | h <;> cases (go1 h).2
 ·intro i d p h
  cases (go1 h).2
 ·intro i d p h
  cases (go1 h).2
 ·intro i j d e p h
  rcases h with h | h <;> cases (go1 h).2
 ·intro i p h;cases h
 ·intro k d h
  cases (go1 h).2
 ·intro r Γ' e v H' F' _ rv
  subst e
  have:v=.bl true:=rv
  subst this
  exact q H'
end
end L3
namespace L3
open PySem L2 PySem.Spec PySem.SeqAt
def b2 (b:Bool):Int:=if b then 1 else 0
mutual
def eqN:Nat→D→D→Option Bool
 | _,.non,.non=>some true
 | _,.bl a,.bl b=>some (a == b)
 | _,.int a,.int b=>some (a == b)
 | _,.str a,.str b=>some (a == b)
 | n + 1,.lst xs,.lst ys=>gW n xs ys
 | n + 1,.tup xs,.tup ys=>gW n xs ys
 | _,_,_=>none
def gW:Nat→List D→List D→Option Bool
 | _,[],[]=>some true
 | n,x::xs,y::ys=>match eqN n x y,gW n xs ys with
  | some a,some b=>some (a && b)
  | _,_=>none
 | _,_,_=>some false
end
section
variable {K:PySem.W.Frag} {F H:Hp}
theorem tw {n:Nat}:∀ {xs ys:List D} {k:Bool},gW n xs ys=some k→xs.length≠ys.length→k=false
 | [],[],_,_,h=>absurd rfl h
 | x::xs,[],_,e,_=>by unfold gW at e;cases e;rfl
 | [],y::ys,_,e,_=>by unfold gW at e;cases e;rfl
 | x::xs,y::ys,k,e,h=>by
  unfold gW at e
  split at e
  ·rename_i a b ha hb
   cases e
   rw[tw hb (by simpa using h),Bool.and_false]
  ·cases e
theorem my {n:Nat}:∀ {xs ys:List D} {k:Bool},gW n xs ys=some k→∃ e:Nat→Bool,(∀ (j:Nat) x y,xs[j]?=some x→ys[j]?=some y→eqN n x y=some (e j))∧k=((List.range (min xs.length ys.length)).all e && xs.length == ys.length)
 | [],[],k,h=>by unfold gW at h;cases h;exact⟨fun _=>true,fun j x y h=>by simp at h,by simp⟩
 | x::xs,[],k,h=>by unfold gW at h;cases h;exact⟨fun _=>true,fun j x y _ h=>by simp at h,by simp⟩
 | [],y::ys,k,h=>by unfold gW at h;cases h;exact⟨fun _=>true,fun j x y h=>by simp at h,by simp⟩
 | x::xs,y::ys,k,h=>by
  unfold gW at h
  split at h
  ·rename_i a b ha hb
   cases h
   obtain⟨e,h1,h2⟩:=my hb
   refine⟨fun j=>match j with | 0=>a | j + 1=>e j,fun j x' y' hx hy=>?_,?_⟩
   ·cases j with
    | zero=>simp at hx hy;subst hx hy;exact ha
    | succ j=>exact h1 j x' y' (by simpa using hx) (by simpa using hy)
   ·subst h2
    have hm:min (x::xs).length (y::ys).length=min xs.length ys.length + 1:=by simp [Nat.succ_min_succ]
    rw[hm,List.range_succ_eq_map,List.all_cons,List.all_map]
    simp only[List.length_cons,Function.comp_def,Bool.and_assoc]
    congr 1
    congr 1
    simp
  ·cases h
mutual
theorem wU:∀ {n:Nat} {d d':D} {v:V} {k:Bool},Rep K F d v→Rep K F d' v→eqN n d d'=some k→k=true
 | n,d,d',v,k,h,h',e=>by
  unfold eqN at e
  split at e <;> first
   | (cases e;rfl)
   | (cases e;cases h;cases h';simp;done)
   | (cases e;cases h;cases h';done)
   | (cases e;cases h;obtain⟨_,_,z,_⟩:=h';cases z;done)
   | (cases e;cases h';obtain⟨_,_,z,_⟩:=h;cases z;done)
   | (obtain⟨p,vs,rfl,a,b⟩:=h;obtain⟨p',vs',q,a',b'⟩:=h';cases q;rw[a] at a';cases a';exact vb b b' e)
   | (obtain⟨p,vs,rfl,a,b⟩:=h;obtain⟨p',vs',q,a',b'⟩:=h';cases q;rw[a] at a';cases a';done)
   | (cases e;done)
theorem vb:∀ {n:Nat} {xs ys:List D} {vs:List V} {k:Bool},aF K F xs vs→aF K F ys vs→gW n xs ys=some k→k=true
 | n,[],[],_,k,_,_,e=>by unfold gW at e;cases e;rfl
 | n,x::xs,[],_,k,⟨v,ws,h1,_⟩,h',e=>by cases h';cases h1
 | n,[],y::ys,_,k,h,⟨v,ws,h1,_⟩,e=>by cases h;cases h1
 | n,x::xs,y::ys,_,k,⟨v,ws,h1,h2,h3⟩,⟨v',ws',h1',h2',h3'⟩,e=>by
  subst h1
  cases h1'
  unfold gW at e
  split at e
  ·rename_i a b ha hb
   cases e
   rw[wU h2 h2' ha,vb h3 h3' hb];rfl
  ·cases e
end
end
end L3
namespace L3
open PySem L2 PySem.Spec PySem.SeqAt
section
variable {K:PySem.W.Frag} {X:Cx} {F H:Hp} {pins:List (Addr×Obj)} {σ:L2.St} {s:Shared}
theorem Vals.at' {xs:List V} {us:List Value} (r:Vals xs us) {j:Nat} (h:j < us.toArray.size):∃ v,xs[j]?=some v∧RelV v (us.toArray[j]):=by
 have h1:j < xs.length:=by rw[r.length];simpa using h
 obtain⟨u,hu,ru⟩:=r.get (List.getElem?_eq_getElem h1)
 refine⟨_,List.getElem?_eq_getElem h1,?_⟩
 have:us.toArray[j]=u:=by
  have h2:j < us.length:=by simpa using h
  have h3:us[j]?=some us[j]:=List.getElem?_eq_getElem h2
  rw[hu] at h3;cases h3
  simp
 rw[this];exact ru
theorem wC (I:Inv X pins σ H s) {p:Addr} {vs:List V} (h:H p=some (.lst vs)):∃ its:List Value,Vals vs its∧s.heap.IsList p its.toArray:=by
 obtain⟨its,n,r,e,_⟩:=I.lst h
 exact⟨its,r,_,e,rfl,n,rfl⟩
theorem wB (I:Inv X pins σ H s) {p:Addr} {vs:List V} (h:H p=some (.tup vs)):∃ its:List Value,Vals vs its∧s.heap.IsTuple p its.toArray:=by
 obtain⟨its,r,⟨o,e,hc,n,d⟩,_⟩:=I.tuple (a:=p) (xs:=vs) (.inl (.inl h))
 exact⟨its,r,o,e,hc,n,d⟩
theorem wW {n:Nat} {A:Around} {xs ys:List D} {vs ws:List V} {us zs:List Value} {e:Nat→Bool} (ih:∀ {d d':D} {v v':V} {u u':Value} {k:Bool},Rep K F d v→Rep K F d' v'→RelV v u→RelV v' u'→eqN n d d'=some k→EqAt A s u u' k)
  (r1:aF K F xs vs) (r2:aF K F ys ws) (q1:Vals vs us) (q2:Vals ws zs) (he:∀ (j:Nat) x y,xs[j]?=some x→ys[j]?=some y→eqN n x y=some (e j)) :
  ∀ j (h1:j < us.toArray.size) (h2:j < zs.toArray.size),EqAt A s us.toArray[j] zs.toArray[j] (e j):=fun j h1 h2=>by
 obtain⟨v,hv,rv⟩:=Vals.at' q1 h1
 obtain⟨w,hw,rw'⟩:=Vals.at' q2 h2
 obtain⟨d,hd,rd⟩:=r1.Ji hv
 obtain⟨d',hd',rd'⟩:=r2.Ji hw
 exact ih rd rd' rv rw' (he j d d' hd hd')
theorem xK {n:Nat} {A:Around} {p q:Addr} {xs ys:List D} {vs ws:List V} {k:Bool} (I:Inv X pins σ H s) (ih:∀ {d d':D} {v v':V} {u u':Value} {k:Bool},Rep K F d v→Rep K F d' v'→RelV v u→RelV v' u'→eqN n d d'=some k→EqAt A.in1 s u u' k)
  (h1:H p=some (.lst vs)) (h2:H q=some (.lst ws)) (r1:aF K F xs vs) (r2:aF K F ys ws) (he:gW n xs ys=some k) (hu:A.units < cLine):RcAt A s (.ref p) (.ref q) k:=by
 obtain⟨us,q1,l1⟩:=wC I h1
 obtain⟨zs,q2,l2⟩:=wC I h2
 have n1:us.toArray.size=xs.length:=by rw[← r1.length,q1.length];simp
 have n2:zs.toArray.size=ys.length:=by rw[← r2.length,q2.length];simp
 by_cases hl:xs.length=ys.length
 ·obtain⟨e,g,rfl⟩:=my he
  have:=RcAt.lists l1 l2 (by rw[n1,n2,hl]) hu (wW ih r1 r2 q1 q2 g)
  rw[n1] at this
  rw[hl,Nat.min_self,beq_self_eq_true,Bool.and_true]
  rw[hl] at this
  exact this
 ·rw[tw he hl]
  refine RcAt.lists_lengths l1 l2 ?_ hu
  rw[n1,n2,bne_iff_ne];exact hl
theorem uL {n:Nat} {A:Around} {p q:Addr} {xs ys:List D} {vs ws:List V} {k:Bool} (I:Inv X pins σ H s) (ih:∀ {d d':D} {v v':V} {u u':Value} {k:Bool},Rep K F d v→Rep K F d' v'→RelV v u→RelV v' u'→eqN n d d'=some k→EqAt A.in1 s u u' k)
  (h1:H p=some (.tup vs)) (h2:H q=some (.tup ws)) (r1:aF K F xs vs) (r2:aF K F ys ws) (he:gW n xs ys=some k) (hu:A.units < cLine):RcAt A s (.ref p) (.ref q) k:=by
 obtain⟨us,q1,l1⟩:=wB I h1
 obtain⟨zs,q2,l2⟩:=wB I h2
 have n1:us.toArray.size=xs.length:=by rw[← r1.length,q1.length];simp
 have n2:zs.toArray.size=ys.length:=by rw[← r2.length,q2.length];simp
 obtain⟨e,g,rfl⟩:=my he
 have:=RcAt.tuples l1 l2 hu (wW ih r1 r2 q1 q2 g)
 rw[n1,n2] at this
 exact this
theorem wV (I:Inv X pins σ H s) (sm:aL F H):∀ (n:Nat) {A:Around} {d d':D} {v v':V} {u u':Value} {k:Bool},A.units + n < cLine→Rep K F d v→Rep K F d' v'→RelV v u→RelV v' u'→eqN n d d'=some k→EqAt A s u u' k:=by
 intro n
 induction n with
 | zero=>
  intro A d d' v v' u u' k hu r r' q q' e
  unfold eqN at e
  split at e <;> (try (cases e;done)) <;> (try (rename_i hn;cases hn;done)) <;> cases r <;> cases r'
  ·cases e;cases q;cases q';exact EqAt.same _
  ·cases e;cases q;cases q';exact .bool_bool _ _
  ·cases e;obtain⟨t,rfl⟩:=q;obtain⟨t',rfl⟩:=q';exact .int_int _ _ _ _
  ·cases e;obtain⟨t,rfl⟩:=q;obtain⟨t',rfl⟩:=q';exact .str_str _ _ _ _
 | succ n ih=>
  intro A d d' v v' u u' k hu r r' q q' e
  have hu0:A.units < cLine:=by omega
  have hu1:A.in1.units + n < cLine:=by show A.units + 1 + n < cLine;omega
  have e0:=e
  unfold eqN at e
  split at e
  ·cases r;cases r';cases e;cases q;cases q';exact EqAt.same _
  ·cases r;cases r';cases e;cases q;cases q';exact .bool_bool _ _
  ·cases r;cases r';cases e;obtain⟨t,rfl⟩:=q;obtain⟨t',rfl⟩:=q';exact .int_int _ _ _ _
  ·cases r;cases r';cases e;obtain⟨t,rfl⟩:=q;obtain⟨t',rfl⟩:=q';exact .str_str _ _ _ _
  ·
   rename_i n' xs ys hn;cases hn
   have r0:=r;have r0':=r'
   obtain⟨p,vs,rfl,a1,b1⟩:=r
   obtain⟨p',vs',rfl,a2,b2⟩:=r'
   cases q;cases q'
   by_cases z:p=p'
   ·subst z
    rw[wU r0 r0' e0]
    exact EqAt.same _
   ·exact .of_refs z (xK I (fun r r' q q' e=>ih hu1 r r' q q' e) (sm _ _ a1) (sm _ _ a2) b1 b2 e hu0)
  ·
   rename_i n' xs ys hn;cases hn
   have r0:=r;have r0':=r'
   obtain⟨p,vs,rfl,a1,b1⟩:=r
   obtain⟨p',vs',rfl,a2,b2⟩:=r'
   cases q;cases q'
   by_cases z:p=p'
   ·subst z
    rw[wU r0 r0' e0]
    exact EqAt.same _
   ·exact .of_refs z (uL I (fun r r' q q' e=>ih hu1 r r' q q' e) (sm _ _ a1) (sm _ _ a2) b1 b2 e hu0)
  ·cases e
def CW (K:PySem.W.Frag) (n:Nat) (neg:Bool):R2:=fun x y H Q=>∃ F d d' k,aL F H∧i7 K F H d x∧i7 K F H d' y∧eqN (n + 1) d d'=some k∧Q (.bl (neg ^^ k)) H
theorem JW (I:Inv X pins σ H s) (sm:aL F H) (n:Nat) {A:Around} {d d':D} {v v':V} {u u':Value} {k:Bool} (hu:A.units + n + 1 < cLine) (r:i7 K F H d v) (r':i7 K F H d' v') (q:RelV v u) (q':RelV v' u') (e:eqN (n + 1) d d'=some k):RcAt A s u u' k:=by
 have hu0:A.units < cLine:=by omega
 have hu1:A.in1.units + n < cLine:=by show A.units + 1 + n < cLine;omega
 unfold eqN at e
 split at e
 ·cases r;cases r';cases e;cases q;cases q';exact .none_none
 ·cases r;cases r';cases e;cases q;cases q';exact .bool_bool _ _
 ·cases r;cases r';cases e;obtain⟨t,rfl⟩:=q;obtain⟨t',rfl⟩:=q';exact .int_int _ _ _ _
 ·cases r;cases r';cases e;obtain⟨t,rfl⟩:=q;obtain⟨t',rfl⟩:=q';exact .str_str _ _ _ _
 ·rename_i n' xs ys hn;cases hn
  obtain⟨p,vs,rfl,a1,b1⟩:=r
  obtain⟨p',vs',rfl,a2,b2⟩:=r'
  cases q;cases q'
  exact xK I (fun r r' q q' e=>wV I sm _ hu1 r r' q q' e) a1 a2 b1 b2 e hu0
 ·rename_i n' xs ys hn;cases hn
  obtain⟨p,vs,rfl,a1,b1⟩:=r
  obtain⟨p',vs',rfl,a2,b2⟩:=r'
  cases q;cases q'
  exact uL I (fun r r' q q' e=>wV I sm _ hu1 r r' q q' e) (sm _ _ a1) (sm _ _ a2) b1 b2 e hu0
 ·cases e
theorem IC (hK:X.K=K) {n:Nat} (hu:X.A.units + n + 1 < cLine):OpR X (compareOp .Eq) (CW K n false):=by
 intro pins s σ H x y v u Q I rx ry h
 obtain⟨F,d,d',k,sm,r,r',e,q⟩:=h
 refine JW I sm n hu r r' rx ry e _ _ _ _ (Ef I q (by simp))
def uj (n:Nat) (neg:Bool) (x y:D) (Γ:G) (Q:RV→G→Prop):Prop:=∃ k,eqN (n + 1) x y=some k∧Q (.fz (.bl (neg ^^ k))) Γ
theorem Em {n:Nat} {neg:Bool}:kU K (CW K n neg) (uj n neg):=by
 intro B F σ H Γ x y dx dy Q QQ e rx ry q k
 obtain⟨b,hb,q⟩:=q
 exact⟨F,dx,dy,b,e.sub,rx,ry,hb,k _ _ (qx e q)⟩
theorem gn (hK:X.K=K) {k:Nat} (hr:eg k X.A):C3 K X .Eq (CW K 20 false) (uj 20 false):=⟨IC hK (by have:=hr.un;omega),Em⟩
end
end L3
namespace L3
open PySem L2 PySem.Spec PySem.SeqAt
section
variable {K:PySem.W.Frag} {X:Cx} {F H:Hp} {pins:List (Addr×Obj)} {σ:L2.St} {s:Shared}
theorem CL {n:Nat} {A:Around} {p q:Addr} {xs ys:List D} {vs ws:List V} {k:Bool} (I:Inv X pins σ H s) (ih:∀ {d d':D} {v v':V} {u u':Value} {k:Bool},Rep K F d v→Rep K F d' v'→RelV v u→RelV v' u'→eqN n d d'=some k→EqAt A.in1 s u u' k)
  (h1:H p=some (.lst vs)) (h2:H q=some (.lst ws)) (r1:aF K F xs vs) (r2:aF K F ys ws) (he:gW n xs ys=some k) (hu:A.units < cLine):RcNeAt A s (.ref p) (.ref q) (!k):=by
 obtain⟨us,q1,l1⟩:=wC I h1
 obtain⟨zs,q2,l2⟩:=wC I h2
 have n1:us.toArray.size=xs.length:=by rw[← r1.length,q1.length];simp
 have n2:zs.toArray.size=ys.length:=by rw[← r2.length,q2.length];simp
 by_cases hl:xs.length=ys.length
 ·obtain⟨e,g,rfl⟩:=my he
  have:=RcNeAt.lists l1 l2 (by rw[n1,n2,hl]) hu (wW ih r1 r2 q1 q2 g)
  rw[n1] at this
  rw[hl,Nat.min_self,beq_self_eq_true,Bool.and_true]
  rw[hl] at this
  exact this
 ·rw[tw he hl]
  refine RcNeAt.lists_lengths l1 l2 ?_ hu
  rw[n1,n2,bne_iff_ne];exact hl
theorem Br {n:Nat} {A:Around} {p q:Addr} {xs ys:List D} {vs ws:List V} {k:Bool} (I:Inv X pins σ H s) (ih:∀ {d d':D} {v v':V} {u u':Value} {k:Bool},Rep K F d v→Rep K F d' v'→RelV v u→RelV v' u'→eqN n d d'=some k→EqAt A.in1 s u u' k)
  (h1:H p=some (.tup vs)) (h2:H q=some (.tup ws)) (r1:aF K F xs vs) (r2:aF K F ys ws) (he:gW n xs ys=some k) (hu:A.units < cLine):RcNeAt A s (.ref p) (.ref q) (!k):=by
 obtain⟨us,q1,l1⟩:=wB I h1
 obtain⟨zs,q2,l2⟩:=wB I h2
 have n1:us.toArray.size=xs.length:=by rw[← r1.length,q1.length];simp
 have n2:zs.toArray.size=ys.length:=by rw[← r2.length,q2.length];simp
 obtain⟨e,g,rfl⟩:=my he
 have:=RcNeAt.tuples l1 l2 hu (wW ih r1 r2 q1 q2 g)
 rw[n1,n2] at this
 exact this
theorem JV (I:Inv X pins σ H s) (sm:aL F H) (n:Nat) {A:Around} {d d':D} {v v':V} {u u':Value} {k:Bool} (hu:A.units + n + 1 < cLine) (r:i7 K F H d v) (r':i7 K F H d' v') (q:RelV v u) (q':RelV v' u') (e:eqN (n + 1) d d'=some k):RcNeAt A s u u' (!k):=by
 have hu0:A.units < cLine:=by omega
 have hu1:A.in1.units + n < cLine:=by show A.units + 1 + n < cLine;omega
 unfold eqN at e
 split at e
 ·cases r;cases r';cases e;cases q;cases q';exact .none_none
 ·cases r;cases r';cases e;cases q;cases q';exact .bool_bool _ _
 ·cases r;cases r';cases e;obtain⟨t,rfl⟩:=q;obtain⟨t',rfl⟩:=q';exact .int_int _ _ _ _
 ·cases r;cases r';cases e;obtain⟨t,rfl⟩:=q;obtain⟨t',rfl⟩:=q';exact .str_str _ _ _ _
 ·rename_i n' xs ys hn;cases hn
  obtain⟨p,vs,rfl,a1,b1⟩:=r
  obtain⟨p',vs',rfl,a2,b2⟩:=r'
  cases q;cases q'
  exact CL I (fun r r' q q' e=>wV I sm _ hu1 r r' q q' e) a1 a2 b1 b2 e hu0
 ·rename_i n' xs ys hn;cases hn
  obtain⟨p,vs,rfl,a1,b1⟩:=r
  obtain⟨p',vs',rfl,a2,b2⟩:=r'
  cases q;cases q'
  exact Br I (fun r r' q q' e=>wV I sm _ hu1 r r' q q' e) (sm _ _ a1) (sm _ _ a2) b1 b2 e hu0
 ·cases e
theorem Iz (hK:X.K=K) {n:Nat} (hu:X.A.units + n + 1 < cLine):OpR X (compareOp .NotEq) (CW K n true):=by
 intro pins s σ H x y v u Q I rx ry h
 obtain⟨F,d,d',k,sm,r,r',e,q⟩:=h
 refine JV I sm n hu r r' rx ry e _ _ _ _ (Ef I q (by simp))
theorem ee (hK:X.K=K) {k:Nat} (hr:eg k X.A):C3 K X .NotEq (CW K 20 true) (uj 20 true):=⟨Iz hK (by have:=hr.un;omega),Em⟩
theorem vc {n:Nat}:∀ (xs ys:List Int),gW n (xs.map .int) (ys.map .int)=some (decide (xs=ys))
 | [],[]=>by simp [gW]
 | x::xs,[]=>by simp [gW]
 | [],y::ys=>by simp [gW]
 | x::xs,y::ys=>by
  simp only[List.map_cons,gW,vc xs ys,eqN]
  congr 1
  rw[Bool.eq_iff_iff]
  simp
theorem jN {n:Nat} (xs ys:List Int):eqN (n + 1) (.lst (xs.map .int)) (.lst (ys.map .int))=some (decide (xs=ys)):=by
 unfold eqN;exact vc xs ys
end
end L3
namespace L2
open PySem PySem.Spec PyProof.Rows
structure Acc (Y:Cx) (D:Addr) (pl:List (Addr×Obj)) (ys:List V) (σ:St) (H:Hp) (s:Shared):Prop where
 us:∃ us,Inv Y ((D,cL us us.length)::pl) σ H s∧Vals ys us
 exD:D∈Y.ex
 nd:∀ p∈Y.pn++pl,p.1≠D
abbrev TB:=List V→St→Hp→(List V→St→Hp→Prop)→Prop
def PB (Y:Cx) (D:Addr) (m:Sem Fin→Sem Fin) (t:TB):Prop:=
 ∀ (k:Sem Fin) (pl:List (Addr×Obj)) (s:Shared) (ys:List V) (σ:St) (H:Hp) (Q:List V→St→Hp→Prop) (R:Fin→Shared→Prop),Acc Y D pl ys σ H s→t ys σ H Q→
  (∀ ys' σ' H' s',Acc Y D pl ys' σ' H' s'→Q ys' σ' H'→wpAny (model Y.prog Y.w) Y.A k R (fun _ _=>False) s')→wpAny (model Y.prog Y.w) Y.A (m k) R (fun _ _=>False) s
section
variable {Y:Cx} {D:Addr}
def yF (te:TE):TB:=fun ys σ H Q=>ys.length < sizeLine∧te σ H fun y H'=>Q (ys++[y]) σ H'
abbrev AX (elt:Expr) (D:Addr) (env:Env) (k:Sem Fin):Sem Fin:=(eval elt env >>= fun x=>call (.builtin "list.append") [.ref D,x] >>= fun _=>pure ()) >>= fun _=>k
theorem Acc.pins {pl:List (Addr×Obj)} {ys:List V} {σ σ':St} {H H':Hp} {s s':Shared} {us:List Value} (a:Acc Y D pl ys σ H s) (I:Inv Y ((D,cL us us.length)::pl) σ' H' s') (r:Vals ys us):Acc Y D pl ys σ' H' s':=⟨⟨us,I,r⟩,a.exD,a.nd⟩
theorem Aw {elt:Expr} {te:TE} (hx:Y.xe=fun _ _=>False) (he:PE Y elt te):PB Y D (AX elt D Y.env) (yF te):=by
 intro k pl s ys σ H Q R a ⟨hz,q⟩ hk
 obtain⟨us,I,rv⟩:=a.us
 have he':=he _ s σ H _ I q
 rw[hx] at he'
 refine wpAny_bind (wpAny_bind (thn he' fun y s7 ⟨yv,H7,I7,r7,q7⟩=>wpAny_bind ?_))
 obtain⟨pD,pH,pL,pF,pc⟩:=I7.pin (D,cL us us.length) (List.mem_append_right _ List.mem_cons_self)
 have hlen:us.length=ys.length:=rv.length.symm
 refine append_at (hsz:=by rw[List.size_toArray,hlen];exact Nat.le_of_lt hz) pD fun h8 sb8 hD8=>wpAny_pure ?_
 have I7n:Inv Y pl σ H7 s7:=I7.j9 fun p z=>I7.pin p (List.mem_append_right _ (List.mem_cons_of_mem _ z))
 have I8:Inv Y pl σ H7 { s7 with heap:=h8 }:=I7n.turned (t':=s7.toks) (it:=D) (fun b o hb e=>(sb8.2 b hb).trans e) pH pL (.inl a.exD) (fun x c e=>(I7.ok.exf D a.exD).2 x c e) a.nd
 have e8:h8.get? D=some (cL (us++[y]) (us++[y]).length):=by
  rw[hD8]
  simp
 refine hk (ys++[yv]) σ H7 _ ⟨⟨us++[y],I8.j9 fun p z=>?_,rv.append (.cons r7 .nil)⟩,a.exD,a.nd⟩ q7
 rcases List.mem_cons.mp z with e | z
 ·subst e;exact⟨e8,pH,pL,pF,fun v z=>by cases z⟩
 ·exact I8.pin p (List.mem_append_right _ z)
def bIf (tc:TT) (t:TB):TB:=fun ys σ H Q=>tc σ H fun b H'=>if b=true then t ys σ H' Q else Q ys σ H'
abbrev ifK (c:Expr) (env:Env) (m:Sem Fin→Sem Fin) (k:Sem Fin):Sem Fin:=(forIn [c] true fun c r=>if r=true then do let ok ← isTrue c env (eval c env);pure (ForInStep.yield ok) else pure (ForInStep.yield r)) >>= fun ok=>if ok=true then m k else k
theorem Ke {c:Expr} {tc:TT} {m:Sem Fin→Sem Fin} {t:TB} (hx:Y.xe=fun _ _=>False) (hc:PT Y c tc) (hm:PB Y D m t):PB Y D (ifK c Y.env m) (bIf tc t):=by
 intro k pl s ys σ H Q R a q hk
 obtain⟨us,I,rv⟩:=a.us
 have hc':=hc _ s σ H _ I q
 rw[hx] at hc'
 refine wpAny_bind (wpAny_tests_one (thn hc' fun b s1 ⟨H1,I1,q1⟩=>?_))
 cases b with
 | true=>exact hm k pl s1 ys σ H1 Q R (a.pins I1 rv) (by simpa using q1) hk
 | false=>exact hk ys σ H1 s1 (a.pins I1 rv) (by simpa using q1)
def yE (J:It) (g:TG) (t:TB):TB:=fun ys σ H Q=>∃ W:Nat→Nat→List V→St→Hp→Prop,(∃ m,W 0 m ys σ H)∧∀ i m ys σ H,W i m ys σ H→
 (J.stop i H∧Q ys σ H)∨(J.go i H∧∀ x H',J.yld i H x H'→g x σ H' fun σ2 H2=>t ys σ2 H2 fun ys' σ' H''=>∃ m',m' < m∧W (i + 1) m' ys' σ' H'')
theorem He {elt:Expr} {gens:List Comprehension} {sc:Scope} {pos p0:Pos} {d:Nat} {tg:Expr} {it:Addr} {fp:List Addr} {tn:Nat→Heap→Prop} {J:It} {g:TG} {m:Sem Fin→Sem Fin} {t:TB}
  (hx:Y.xe=fun _ _=>False) (hc:Y.calm=true) (T:Turn Y.prog Y.w Y.K tg J fp it tn) (hg:PG Y tg g) (hm:PB Y D m t)
  (hturn:compTurn (.ListComp elt gens sc pos) d (.ref it) (.ref D) Y.env=(standAt p0 >>= fun _=>pyNext (.ref it) >>= fun r=>match r with
   | none=>pure (.done .next)
   | some v=>letOwnedTupleGo tg (.ref it) v >>= fun _=>assign tg Y.env v >>= fun _=>m (again (.compLoop (.ListComp elt gens sc pos) d (.ref it) (.ref D) Y.env))))
  {pl:List (Addr×Obj)} {ys:List V} {σ:St} {H:Hp} {s:Shared} {Q:List V→St→Hp→Prop} {R:Result→Shared→Prop} (a:Acc Y D pl ys σ H s) (st:tn 0 s.heap) (f:∀ b∈fp,gJ Y pl H b∧D≠b) (q:yE J g t ys σ H Q)
  (hR:∀ ys' σ' H' s',Acc Y D pl ys' σ' H' s'→Q ys' σ' H'→R (.ok .next) s'):codeAny (model Y.prog Y.w) Y.A (.compLoop (.ListComp elt gens sc pos) d (.ref it) (.ref D) Y.env) R s:=by
 obtain⟨W,⟨m0,w0⟩,turn⟩:=q
 have stat:∀ {H':Hp} {o:Obj},(∀ b∈fp,H' b=none)→∀ b∈fp,gJ Y ((D,o)::pl) H' b:=fun hn b hb=>by
  obtain⟨⟨_,f1,f2,f3,f4,f5⟩,f6⟩:=f b hb
  refine⟨hn b hb,f1,f2,f3,f4,fun p hp=>?_⟩
  rcases List.mem_append.mp hp with hp | hp
  ·exact f5 p (List.mem_append_left _ hp)
  ·rcases List.mem_cons.mp hp with e | hp
   ·subst e;exact f6
   ·exact f5 p (List.mem_append_right _ hp)
 refine codeAny_loop rfl (fun n s'=>∃ i ys' σ' H',Acc Y D pl ys' σ' H' s'∧tn i s'.heap∧(∀ b∈fp,H' b=none)∧W i n ys' σ' H') (fun n s3 hI=>?_) m0 ⟨0,ys,σ,H,a,st,fun b hb=>(f b hb).1.1,w0⟩
 show wpAny _ _ ((compTurn (.ListComp elt gens sc pos) d (.ref it) (.ref D) Y.env).onRaise (fun x=>do noteFrame x Y.env;theTreesLotGoes x)) _ _ s3
 refine wpAny_noted ?_
 rw[hturn]
 obtain⟨i,ys3,σ3,H3,a3,st3,fr3,w3⟩:=hI
 obtain⟨us3,I3,rv3⟩:=a3.us
 have noE:∀ {M:Model} {A:Around} {α:Type} {t:Sem α} {Q:α→Shared→Prop} {E:Value→Shared→Prop} {s:Shared},wpAny M A t Q (fun _ _=>False) s→wpAny M A t Q E s:=fun h=>wpAny_mono h (fun _ _ x=>x) fun _ _ x=>x.elim
 refine wpAny_bind (wpAny_standAt (wpAny_bind ?_))
 rcases turn i n ys3 σ3 H3 w3 with ⟨stop,qn⟩ | ⟨go,step⟩
 ·refine noE (thn (T.done Y rfl rfl rfl hc i _ s3 σ3 H3 _ I3 (stat fr3) st3 stop) fun r s4 ⟨hr,I4⟩=>?_)
  subst hr
  exact wpAny_pure (hR ys3 σ3 H3 s4 (a3.pins I4 rv3) qn)
 ·refine noE (thn (T.item Y rfl rfl rfl hc i _ s3 σ3 H3 _ I3 (stat fr3) st3 go) fun r s4 ⟨u,hr,h4⟩=>?_)
  subst hr
  refine wpAny_bind (noE (thn h4 fun _ s5 ⟨x,H5,I5,r5,y5,st5,fr5⟩=>?_))
  have I5':=I5.pinned (stat fr5) (T.obj _ _ st5)
  have hg':=hg _ s5 σ3 H5 x u _ I5' r5 (step x H5 y5)
  rw[hx] at hg'
  refine wpAny_bind (noE (thn hg' fun _ s6 ⟨σ6,H6,I6,q6⟩=>?_))
  have a6:Acc Y D (pl++sk fp s5.heap) ys3 σ6 H6 s6:=⟨⟨us3,I6,rv3⟩,a.exD,fun p hp=>by
   rcases List.mem_append.mp hp with hp | hp
   ·exact a.nd p (List.mem_append_left _ hp)
   ·rcases List.mem_append.mp hp with hp | hp
    ·exact a.nd p (List.mem_append_right _ hp)
    ·exact fun z=>(f p.1 (uQ hp).1).2 z.symm⟩
  refine noE (hm _ _ s6 ys3 σ6 H6 _ _ a6 q6 fun ys7 σ7 H7 s7 a7 ⟨m',hlt,w7⟩=>wpAny_pure ⟨rfl,m',hlt,i + 1,ys7,σ7,H7,?_,?_,?_,w7⟩)
  ·obtain⟨us7,I7,rv7⟩:=a7.us
   exact⟨⟨us7,I7.j9 fun p hp=>I7.pin p (List.mem_append_right _ (by
    rcases List.mem_cons.mp hp with e | hp
    ·subst e;exact List.mem_cons_self
    ·exact List.mem_cons_of_mem _ (List.mem_append_left _ hp))),rv7⟩,a.exD,a.nd⟩
  ·obtain⟨us7,I7,rv7⟩:=a7.us
   exact T.keep _ _ _ st5 fun b hb o e=>(I7.pin (b,o) (List.mem_append_right _ (List.mem_cons_of_mem _ (List.mem_append_right _ (gy hb e))))).1
  ·intro b hb
   obtain⟨us7,I7,rv7⟩:=a7.us
   obtain⟨o,e,d⟩:=T.obj _ _ st5 b hb
   exact(I7.pin (b,o) (List.mem_append_right _ (List.mem_cons_of_mem _ (List.mem_append_right _ (gy hb e))))).2.1
end
end L2
namespace L2
open PySem PySem.Spec PyProof.Rows
section
variable {prog:Program} {w:World} {A:Around} {R:Result→Shared→Prop} {s:Shared}
theorem pv {prog : Program} {w : World} {A : Around} {R : Result → Shared → Prop} {s : Shared} {elt : Expr} {gens : List Comprehension} {sc : Scope} {pos : Pos} {d : Nat} {it acc : Value} {env : Env} {tg iter : Expr} {ifs : List Expr} (hcl : gens[d]? = some ⟨tg, iter, ifs, 0⟩)
    (same : codeAny (model prog w) A (.compLoop (.ListComp elt gens sc pos) d it acc env) R s)
    (anew : wpAny (model prog w) A (pyIter it) (fun it2 s2 => codeAny (model prog w) A (.compLoop (.ListComp elt gens sc pos) d it2 acc env) R s2) (notedBy (model prog w) A env fun x s2 => R (.error x) s2) s) :
    codeAny (model prog w) A (.compStart (.ListComp elt gens sc pos) d it acc env) R s := by
  have cl : (clausesOf (.ListComp elt gens sc pos))[d]? = some ⟨tg, iter, ifs, 0⟩ := hcl
  apply codeAny_of_tree
  apply wpAny_notedAt (pos := theWindowsPlace) (m := compStart (.ListComp elt gens sc pos) d it acc env)
  simp only [compStart, cl]
  apply wpAny_bind
  apply wpAny_askSetting
  apply wpAny_ite
  split
  · exact wpAny_pure ⟨rfl, same⟩
  · apply wpAny_bind
    apply wpAny_rule
    apply wpAny_bind
    apply wpAny_standAt
    exact wpAny_bind (wpAny_mono anew (fun _ _ q => wpAny_pure ⟨rfl, q⟩) fun _ _ q => q)
end
section
variable {Y:Cx} {D:Addr}
def EK (wi:TI) (g:TG) (t:TB):TB:=fun ys σ H Q=>wi σ H fun J H1=>yE J g t ys σ H1 Q
abbrev Ha (elt:Expr) (gens:List Comprehension) (sc:Scope) (pos:Pos) (d:Nat) (iter:Expr) (D:Addr) (env:Env) (k:Sem Fin):Sem Fin:=
 eval iter env >>= fun x=>standAt iter.pos >>= fun _=>foldedSetIterable iter env x >>= fun x=>holding [x] (pyIter x) >>= fun itv=>runOwn (.compStart (.ListComp elt gens sc pos) d itv (.ref D) env) env >>= fun _=>k
theorem FI {elt:Expr} {gens:List Comprehension} {sc:Scope} {pos p0:Pos} {d:Nat} {tg iter:Expr} {ifs:List Expr} {wi:TI} {g:TG} {m:Sem Fin→Sem Fin} {t:TB} (hx:Y.xe=fun _ _=>False) (hc:Y.calm=true) (hcl:gens[d]?=some ⟨tg,iter,ifs,0⟩)
  (hi:PI Y tg iter wi) (hg:PG Y tg g) (hm:PB Y D m t)
  (hturn:∀ it,compTurn (.ListComp elt gens sc pos) d (.ref it) (.ref D) Y.env=(standAt p0 >>= fun _=>pyNext (.ref it) >>= fun r=>match r with
   | none=>pure (.done .next)
   | some v=>letOwnedTupleGo tg (.ref it) v >>= fun _=>assign tg Y.env v >>= fun _=>m (again (.compLoop (.ListComp elt gens sc pos) d (.ref it) (.ref D) Y.env))))
  (hs:∀ x,foldedSetIterable iter Y.env x=pure x:=by intro _;rfl):PB Y D (Ha elt gens sc pos d iter D Y.env) (EK wi g t):=by
 intro k pl s ys σ H Q R a q hk
 obtain⟨us,I,rv⟩:=a.us
 have hi':=hi _ s σ H _ I q
 rw[hx] at hi'
 refine wpAny_bind (thn hi' fun v s1 h1=>wpAny_bind (wpAny_standAt (wpAny_bind ?_)))
 rw[hs]
 refine wpAny_pure (wpAny_bind (wpAny_holding (thn h1 fun itv s2 h2=>?_)))
 obtain⟨it,fp,tn,J,H2,e,I2,T,st2,f2,cw⟩:=h2
 subst e
 have a2:=a.pins I2 rv
 refine wpAny_bind (wpAny_runOwn ?_)
 have lp:∀ {R:Result→Shared→Prop},(∀ ys' σ' H' s',Acc Y D pl ys' σ' H' s'→Q ys' σ' H'→R (.ok .next) s')→codeAny (model Y.prog Y.w) Y.A (.compLoop (.ListComp elt gens sc pos) d (.ref it) (.ref D) Y.env) R s2:=fun hR=>
  He hx hc T hg hm (hturn it) a2 st2 (fun b hb=>by
   obtain⟨f0,f1,f3,f4,f5,f6⟩:=f2 b hb
   exact⟨⟨f0,f1,f3,f4,f5,fun p hp=>f6 p (by
    rcases List.mem_append.mp hp with hp | hp
    ·exact List.mem_append_left _ hp
    ·exact List.mem_append_right _ (List.mem_cons_of_mem _ hp))⟩,f6 (D,_) (List.mem_append_right _ List.mem_cons_self)⟩) cw hR
 have fin:=lp (R:=fun r s'=>match r with | .ok f=>wpAny (model Y.prog Y.w) Y.A k R (fun _ _=>False) s' | .error e=>False) fun ys' σ' H' s' a' q'=>hk ys' σ' H' s' a' q'
 have fin2:codeAny (model Y.prog Y.w) Y.A (.compLoop (.ListComp elt gens sc pos) d (.ref it) (.ref D) Y.env) (fun r s'=>match r with | .ok f=>wpAny (model Y.prog Y.w) Y.A k R (fun _ _=>False) s' | .error e=>cameBackBy (model Y.prog Y.w) Y.A Y.env (fun _ _=>False) e s') s2:=
  codeAny_mono fin fun r s' h=>by cases r with | ok f=>exact h | error e=>exact h.elim
 exact pv hcl fin2 (wpAny_mono (T.self Y.A 0 _ _ (fun _ _=>False) st2 fin2) (fun _ _ h=>h) fun _ _ h=>h.elim)
end
end L2
namespace L2
open PySem PySem.Spec PyProof.Rows
section
variable {X:Cx}
theorem yp {elt iter tg:Expr} {gens:List Comprehension} {ifs:List Expr} {sc:Scope} {pos p0:Pos} {Nc:List Str} {fr:List (Option Nat)} {g:TG} {m:Addr→Env→Sem Fin→Sem Fin} {t:TB} (hcl:gens[0]?=some ⟨tg,iter,ifs,0⟩) (B:Blk X.N X.env.scope sc Nc fr) (hc:X.calm=true)
  (hg:∀ s₀ H₀ C ex pn,PG (bS X sc Nc s₀ H₀ C ex pn) tg g) (hm:∀ s₀ H₀ C ex pn D,PB (bS X sc Nc s₀ H₀ C ex pn) D (m D (bS X sc Nc s₀ H₀ C ex pn).env) t)
  (hturn:∀ (it D:Addr) (env:Env),compTurn (.ListComp elt gens sc pos) 0 (.ref it) (.ref D) env=(standAt p0 >>= fun _=>pyNext (.ref it) >>= fun r=>match r with
   | none=>pure (.done .next)
   | some v=>letOwnedTupleGo tg (.ref it) v >>= fun _=>assign tg env v >>= fun _=>m D env (again (.compLoop (.ListComp elt gens sc pos) 0 (.ref it) (.ref D) env))))
  {pins:List (Addr×Obj)} {σ:St} {s2:Shared} {H2:Hp} {it:Addr} {fp:List Addr} {tn:Nat→Heap→Prop} {J:It} (I2:Inv X pins σ H2 s2) (T:Turn X.prog X.w X.K tg J fp it tn) (st2:tn 0 s2.heap) (f2:∀ b∈fp,gJ X pins H2 b)
  {Q:VK} (cw:yE J g t [] (mB fr σ) H2 fun ys _ H'=>ys.length < sizeLine∧∀ l,H' l=none→Q (.ref l) (upd H' l (.lst ys))) {RR:Value→Addr→Result→Shared→Prop} {E:Value→Shared→Prop}
  (hRR:∀ D C s' H',Inv X pins σ H' s'→(∃ m,s'.heap.Ns C m)→gJ X pins H' C→Q (.ref D) H'→RR (.ref D) C (.ok .next) s') :
  wpAny (model X.prog X.w) X.A (newList []) (fun acc s₃=>wpAny (model X.prog X.w) X.A (newFunctionEnv sc X.env.globals (takes X.env.cells sc.names []) [] X.env.qual none .none (some X.env)) (fun cenv s₄=>
   codeAny (model X.prog X.w) X.A (.compStart (.ListComp elt gens sc pos) 0 (.ref it) acc { cenv with scope:=relabel sc X.env }) (RR acc cenv.locals) s₄) E s₃) E s2:=by
 refine wpAny_newObj_type (wpAny_newFunctionEnv B.nocell (by intro y hy;simp at hy) (fun h₁ hns₁ hsb₁=>?_) B.kind)
 dsimp only at hns₁ hsb₁ ⊢
 generalize hH2:s2.heap.push { cls:=.type "list",dict:=none,data:=.seq ([]:List Value).toArray }=hp at hns₁ hsb₁ ⊢
 have hCs:hp.objs.size=s2.heap.objs.size + 1:=by rw[← hH2,Heap.size_push]
 generalize hCe:hp.objs.size=C at hns₁ hsb₁ ⊢
 generalize hDe:s2.heap.objs.size=D at hCs ⊢
 have hDC:D≠C:=by rw[← hCe,hCs];exact Nat.ne_of_lt (Nat.lt_succ_self _)
 have up:∀ b o,s2.heap.get? b=some o→hp.get? b=some o:=fun b o e=>by rw[← hH2];exact Heap.get?_push_of_some _ e
 have hDp:hp.get? D=some (cL [] 0):=by rw[← hH2,← hDe];exact Heap.get?_push_size _ rfl
 have I3:Inv X pins σ H2 { s2 with heap:=hp }:=I2.kept (t':=s2.toks) up
 have hD0:H2 D=none:=I2.hok.fresh (by rw[hDe];exact Nat.le_refl _)
 have fD:gJ X pins H2 D:=I2.p8 (by rw[hDe];exact Nat.le_refl _) hD0
 have fpo:∀ b∈fp,∃ o,s2.heap.get? b=some o∧∀ v,o.data≠.cell v:=T.obj 0 _ st2
 have fplt:∀ b∈fp,b < D:=fun b hb=>by obtain⟨o,e,_⟩:=fpo b hb;rw[← hDe];exact Heap.lt_size e
 have hDfp:D∉fp:=fun hb=>Nat.lt_irrefl _ (fplt D hb)
 have hCfp:C∉fp:=fun hb=>by have:=fplt C hb;rw[← hCe,hCs] at this;exact absurd (Nat.lt_of_succ_lt this) (Nat.lt_irrefl _)
 have nobase:∀ b,(b∈X.ex∨X.s₀.heap.objs.size≤b)→∀ o,X.base.get? b≠some o:=fun b h o e=>by
  rcases h with h | h
  ·exact I2.ok.noex b o e h
  ·exact absurd (Nat.lt_of_lt_of_le (Heap.lt_size e) (Nat.le_trans I2.ok.bsz h)) (Nat.lt_irrefl _)
 have hex:∀ b∈D::fp,b < hp.objs.size∧b∉X.fs∧b≠X.env.locals∧(∀ x c,X.env.cells.lookup x=some c→c≠b)∧∀ o,X.base.get? b≠some o:=fun b hb=>by
  have fb:gJ X pins H2 b:=by
   rcases List.mem_cons.mp hb with e | hb
   ·rw[e];exact fD
   ·exact f2 b hb
  refine⟨?_,fb.2.2.1,fb.2.1,fb.2.2.2.2.1,nobase b fb.2.2.2.1⟩
  rcases List.mem_cons.mp hb with e | hb
  ·rw[e,hCs];exact Nat.lt_succ_self _
  ·rw[hCs];exact Nat.lt_succ_of_lt (fplt b hb)
 have hCle:hp.objs.size≤C:=by rw[hCe];exact Nat.le_refl _
 have ok:(bS X sc Nc { s2 with heap:=hp } H2 C (D::fp) (X.pn++pins)).Ok:=EI B I3 hCle hex
 have old:∀ b u,hp.get? b=some u→h₁.get? b=some u:=fun b u e=>by
  have hb:b≠C:=by rw[← hCe];exact Nat.ne_of_lt (Heap.lt_size e)
  exact(hsb₁.2 b hb).trans (Heap.get?_push_of_some _ e)
 have J0:Inv (bS X sc Nc { s2 with heap:=hp } H2 C (D::fp) (X.pn++pins)) [(D,cL [] 0)] (mB fr σ) H2 { s2 with heap:=h₁,toks:=s2.toks + ([]:List (Str×Value)).length }:=
  A6 B ok I3 hCle rfl rfl old hns₁ hDp hD0 fD.2.1 fD.2.2.1 (fun v z=>by cases z)
 have a0:Acc (bS X sc Nc { s2 with heap:=hp } H2 C (D::fp) (X.pn++pins)) D [] [] (mB fr σ) H2 { s2 with heap:=h₁,toks:=s2.toks + ([]:List (Str×Value)).length }:=
  ⟨⟨[],J0,.nil⟩,List.mem_cons_self,fun p hp'=>fD.2.2.2.2.2 p (by simpa using hp')⟩
 have fpY:∀ b∈fp,gJ (bS X sc Nc { s2 with heap:=hp } H2 C (D::fp) (X.pn++pins)) [] H2 b∧D≠b:=fun b hb=>
  ⟨⟨(f2 b hb).1,fun e=>hCfp (by have e':b=C:=e;rw[← e'];exact hb),ok.exfs b (List.mem_cons_of_mem _ hb),.inl (List.mem_cons_of_mem _ hb),(ok.exf b (List.mem_cons_of_mem _ hb)).2,fun p hp'=>(f2 b hb).2.2.2.2.2 p (by simpa using hp')⟩,fun z=>hDfp (by rw[z];exact hb)⟩
 have loop:codeAny (model X.prog X.w) X.A (.compLoop (.ListComp elt gens sc pos) 0 (.ref it) (.ref D) (compEnvC sc (takes X.env.cells sc.names []) C X.env)) (RR (.ref D) C) { s2 with heap:=h₁,toks:=s2.toks + ([]:List (Str×Value)).length }:=by
  refine He (Y:=bS X sc Nc { s2 with heap:=hp } H2 C (D::fp) (X.pn++pins)) (D:=D) rfl hc T (hg _ _ _ _ _) (hm _ _ _ _ _ D) (hturn it D _) a0 (T.keep _ _ _ st2 (fun b _ o e=>old b o (up b o e))) fpY cw fun ys σ4 H3 s4 a4 hq=>?_
  obtain⟨us,I4,rv⟩:=a4.us
  obtain⟨hsz,qn⟩:=hq
  obtain⟨pD,pH,_,_,_⟩:=I4.pin (D,cL us us.length) (List.mem_append_right _ List.mem_cons_self)
  obtain⟨mC',hnC,_⟩:=I4.loc
  have un:Un (frs X.stack) fp H2 (upd H3 D (.lst ys)) s2.heap s4.heap:=by
   have u0:Un (frs X.stack) (D::fp) H2 H3 hp s4.heap:=I4.base
   have neD:∀ {b:Addr} {o:Obj},s2.heap.get? b=some o→b≠D:=fun e=>by rw[← hDe];exact Nat.ne_of_lt (Heap.lt_size e)
   have nx:∀ {b:Addr} {o:Obj},s2.heap.get? b=some o→b∉fp→b∉D::fp:=fun e h1 h2=>by
    rcases List.mem_cons.mp h2 with z | z
    ·exact neD e z
    ·exact h1 z
   have neT:∀ {b:Addr} {o:HO},H2 b=some o→b≠D:=fun e z=>by rw[z,hD0] at e;cases e
   exact⟨fun b o e n hb hx=>u0.keep b o (up b o e) n hb (nx e hx),fun b o e n hb hx=>u0.slot b o (up b o e) n hb (nx e hx),fun b o e n hx=>by rw[au (neD e)];exact u0.free b o (up b o e) n (nx e hx),
    fun b o e hx=>u0.there b o (up b o e) (nx e hx),fun b xs e=>by rw[au (neT e)];exact u0.tups b xs e,fun b o xs e=>by rw[au (neT e)];exact u0.frzs b o xs e,fun b ps e=>by rw[au (neT e)];exact u0.tbls b ps e⟩
  have hok:HOk X.prog X.w (upd H3 D (.lst ys)) s4.heap:=fun b u e=>by
   by_cases hb:b=D
   ·subst hb
    rw[aN] at e
    cases e
    exact⟨Nat.le_of_lt hsz,us,us.length,rv,pD⟩
   ·rw[au hb] at e
    refine(I4.hok b u e).t7 (fun c v _ q=>q) (fun c q=>?_) fun c xs q=>?_
    ·rw[au (fun z=>by rw[z] at q;rw[show H3 D=none from pH] at q;cases q)];exact q
    ·rw[au (fun z=>by rw[z] at q;rw[show H3 D=none from pH] at q;cases q)];exact q
  have I5:Inv X pins σ (upd H3 D (.lst ys)) s4:=I2.Hx I4.os un hok I4.bare fun b hb=>⟨(f2 b hb).2.2.2.1,(f2 b hb).2.1,(f2 b hb).2.2.2.2.1,(f2 b hb).2.2.2.2.2⟩
  refine hRR D C s4 _ I5 ⟨mC',hnC⟩ ?_ (qn D pH)
  have hC2:s2.heap.objs.size≤C:=by rw[hDe,← hCe,hCs];exact Nat.le_succ _
  refine I2.p8 hC2 ?_
  rw[au (Ne.symm hDC)]
  exact I4.free
 exact pv hcl loop (wpAny_mono (T.self X.A 0 _ _ (fun _ _=>False) (T.keep _ _ _ st2 (fun b _ o e=>old b o (up b o e))) loop) (fun _ _ h=>h) fun _ _ h=>h.elim)
def vq (fr:List (Option Nat)) (wi:TI) (g:TG) (t:TB):TE:=fun σ H Q=>wi σ H fun J H1=>yE J g t [] (mB fr σ) H1 fun ys _ H'=>ys.length < sizeLine∧∀ l,H' l=none→Q (.ref l) (upd H' l (.lst ys))
theorem xP {elt iter tg:Expr} {ifs:List Expr} {rest:List Comprehension} {sc:Scope} {pos p0:Pos} {Nc:List Str} {fr:List (Option Nat)} {wi:TI} {g:TG} {m:Addr→Env→Sem Fin→Sem Fin} {t:TB} (hc:X.calm=true) (hi:PI X tg iter wi) (B:Blk X.N X.env.scope sc Nc fr)
  (hg:∀ s₀ H₀ C ex pn,PG (bS X sc Nc s₀ H₀ C ex pn) tg g) (hm:∀ s₀ H₀ C ex pn D,PB (bS X sc Nc s₀ H₀ C ex pn) D (m D (bS X sc Nc s₀ H₀ C ex pn).env) t)
  (hturn:∀ (it D:Addr) (env:Env),compTurn (.ListComp elt (⟨tg,iter,ifs,0⟩::rest) sc pos) 0 (.ref it) (.ref D) env=(standAt p0 >>= fun _=>pyNext (.ref it) >>= fun r=>match r with
   | none=>pure (.done .next)
   | some v=>letOwnedTupleGo tg (.ref it) v >>= fun _=>assign tg env v >>= fun _=>m D env (again (.compLoop (.ListComp elt (⟨tg,iter,ifs,0⟩::rest) sc pos) 0 (.ref it) (.ref D) env)))) (hs:∀ x,foldedSetIterable iter X.env x=pure x:=by intro _;rfl) :
  PE X (.ListComp elt (⟨tg,iter,ifs,0⟩::rest) sc pos) (vq fr wi g t):=by
 intro pins s σ H Q I h
 rw[eval_ListComp]
 refine wpAny_comprehension_free (use:=none) rfl hs (w5 B I) B.kind B.locs (thn (hi pins s σ H _ I h) fun v s1 h1=>thn h1 fun itv s2 h2=>?_)
 obtain⟨it,fp,tn,J,H2,e,I2,T,st2,f2,cw⟩:=h2
 subst e
 refine yp (RR:=fun acc C=>compPost (model X.prog X.w) X.A X.xe none (EP X pins σ Q) acc C) rfl B hc hg hm hturn I2 T st2 f2 cw fun D C s' H' I' hn fC q=>?_
 obtain⟨m,hn⟩:=hn
 exact⟨m,hn,fun h' sb=>⟨.ref D,H',I'.turned (t':=s'.toks) (fun b o hb e=>(sb.2 b hb).trans e) fC.1 fC.2.1 fC.2.2.2.1 fC.2.2.2.2.1 fC.2.2.2.2.2,rfl,q⟩⟩
end
end L2
namespace L3
open PySem L2 PySem.Spec
abbrev nu:=List D→G→(List D→G→Prop)→Prop
def PoL (K:PySem.W.Frag) (B:Bs) (F:Hp) (Q:List D→G→Prop):List V→L2.St→Hp→Prop:=fun ys' σ' H'=>∃ F' Γ' ds',aL F F'∧En K B F' σ' H' Γ'∧aF K F' ds' ys'∧Q ds' Γ'
def qO (K:PySem.W.Frag) (t:TB) (b3:nu):Prop:=∀ (B:Bs) (F:Hp) (σ:L2.St) (H:Hp) (Γ:G) (ys:List V) (ds:List D) (Q:List D→G→Prop) (QQ:List V→L2.St→Hp→Prop),En K B F σ H Γ→aF K F ds ys→b3 ds Γ Q→(∀ ys' σ' H',PoL K B F Q ys' σ' H'→QQ ys' σ' H')→t ys σ H QQ
structure Jy (K:PySem.W.Frag) (Y:Cx) (D:Addr) (m:Sem Fin→Sem Fin) (t:TB) (b3:nu):Prop where
 pe:PB Y D m t
 rf:qO K t b3
def tD (e3:TE3) (ys:List D) (Γ:G) (Q:List D→G→Prop):Prop:=ys.length < sizeLine∧e3 Γ fun r Γ1=>Q (ys++[r.d]) Γ1
def Ca (c3:TT3) (b3:nu) (ys:List D) (Γ:G) (Q:List D→G→Prop):Prop:=c3 Γ fun b Γ1=>match b with
 | true=>b3 ys Γ1 Q
 | false=>Q ys Γ1
def AI (xs:List D) (g3:TG3) (b3:nu) (ys:List D) (Γ:G) (Q:List D→G→Prop):Prop:=∃ Iv:Nat→List D→G→Prop,Iv 0 ys Γ∧(∀ k d ys Γ,xs[k]?=some d→Iv k ys Γ→g3 d Γ fun Γ'=>b3 ys Γ' (Iv (k + 1)))∧∀ ys Γ,Iv xs.length ys Γ→Q ys Γ
def xD (i3:TI3) (g3:TG3) (b3:nu) (ys:List D) (Γ:G) (Q:List D→G→Prop):Prop:=i3 Γ fun xs Γ1=>AI xs g3 b3 ys Γ1 Q
def oq (fr:List (Option Nat)) (i3:TI3) (g3:TG3) (b3:nu) (Γ:G) (Q:RV→G→Prop):Prop:=i3 Γ fun xs Γ1=>AI xs g3 b3 [] (fA Γ1 (jb fr)) fun ys Γc=>ys.length < sizeLine∧Q (.fr (.lst ys)) (cm fr Γ1 Γc)
section
variable {K:PySem.W.Frag} {X Y:Cx} {Da:Addr} {pos p0:Pos}
theorem se {te:TE} {e3:TE3} (h:Ref K te e3):qO K (yF te) (tD e3):=by
 intro B F σ H Γ ys ds Q QQ e r ⟨hz,q⟩ k
 refine⟨by rw[r.length];exact hz,h B F σ H Γ _ _ e q fun v H' ⟨F',Γ',rv,s,e',rr,q'⟩=>k _ _ _ ?_⟩
 obtain⟨F2,s2,e2,r2⟩:=e'.frozen rr
 exact⟨F2,Γ',ds++[rv.d],s.trans s2,e2,aF.append (ys:=[rv.d]) (r.mono (s.trans s2)) ⟨v,[],rfl,r2,rfl⟩,q'⟩
theorem Ao {tc:TT} {c3:TT3} {t:TB} {b3:nu} (hc:rB K tc c3) (h:qO K t b3):qO K (bIf tc t) (Ca c3 b3):=by
 intro B F σ H Γ ys ds Q QQ e r q k
 refine hc B F σ H Γ _ _ e q fun b H' ⟨F',Γ',s,e',q'⟩=>?_
 cases b with
 | true=>exact zJ (h B F' σ H' Γ' ys ds Q QQ e' (r.mono s) q' fun ys' σ' H2 ⟨F2,Γ2,d2,s2,rest⟩=>k _ _ _ ⟨F2,Γ2,d2,s.trans s2,rest⟩)
 | false=>exact zK (k _ _ _ ⟨F',Γ',ds,s,e',r.mono s,q'⟩)
theorem xH {J:It} {xs:List D} {g:TG} {g3:TG3} {t:TB} {b3:nu} (hg:ET K g g3) (h:qO K t b3) {B:Bs} {F:Hp} {σ:L2.St} {H:Hp} {Γ:G} {ys:List V} {ds:List D} {Q:List D→G→Prop} {QQ:List V→L2.St→Hp→Prop}
  (R:ItR K F J xs) (e:En K B F σ H Γ) (r:aF K F ds ys) (q:AI xs g3 b3 ds Γ Q) (k:∀ ys' σ' H',PoL K B F Q ys' σ' H'→QQ ys' σ' H'):yE J g t ys σ H QQ:=by
 obtain⟨Iv,i0,it,ie⟩:=q
 refine⟨fun i m ys σ H=>m=xs.length - i∧i≤xs.length∧∃ F' Γ' ds,aL F F'∧En K B F' σ H Γ'∧aF K F' ds ys∧Iv i ds Γ',⟨_,rfl,Nat.zero_le _,F,Γ,ds,aL.refl F,e,r,i0⟩,?_⟩
 rintro i m ys2 σ2 H2 ⟨rfl,hi,F2,Γ2,ds2,s2,e2,r2,iv⟩
 by_cases lt:i < xs.length
 ·refine .inr ⟨R.go i H2 (s2.trans e2.sub) lt,fun x H3 y=>?_⟩
  have hd:xs[i]?=some xs[i]:=List.getElem?_eq_getElem lt
  obtain⟨F3,s3,e3,r3⟩:=R.turn s2 e2 hd y
  refine hg B F3 σ2 H3 Γ2 x _ _ _ e3 r3 (it i _ ds2 Γ2 hd iv) fun σ' Γ' e4 q4=>?_
  exact h B F3 σ' H3 Γ' ys2 ds2 _ _ e4 (r2.mono s3) q4 fun ys' σ'' H4 ⟨F4,Γ4,d4,s4,e5,r5,iv5⟩=>⟨xs.length - (i + 1),by omega,rfl,lt,F4,Γ4,d4,(s2.trans s3).trans s4,e5,r5,iv5⟩
 ·have z:i=xs.length:=by omega
  subst z
  exact .inl ⟨R.stop _ H2 (s2.trans e2.sub) rfl,k _ _ _ ⟨F2,Γ2,ds2,s2,e2,r2,ie ds2 Γ2 iv⟩⟩
theorem CP {wi:TI} {i3:TI3} {g:TG} {g3:TG3} {t:TB} {b3:nu} (hi:G0 K wi i3) (hg:ET K g g3) (h:qO K t b3):qO K (EK wi g t) (xD i3 g3 b3):=by
 intro B F σ H Γ ys ds Q QQ e r q k
 refine hi B F σ H Γ _ _ e q fun J H1 F1 Γ1 xs s1 e1 R q1=>?_
 exact xH hg h R e1 (r.mono s1) q1 fun ys' σ' H2 ⟨F2,Γ2,d2,s2,rest⟩=>k _ _ _ ⟨F2,Γ2,d2,s1.trans s2,rest⟩
theorem uI {fr:List (Option Nat)} {wi:TI} {i3:TI3} {g:TG} {g3:TG3} {t:TB} {b3:nu} (nd:(fr.filterMap id).Nodup) (hi:G0 K wi i3) (hg:ET K g g3) (h:qO K t b3):Ref K (vq fr wi g t) (oq fr i3 g3 b3):=by
 intro B F σ H Γ Q QQ e q k
 refine hi B F σ H Γ _ _ e q fun J H1 F1 Γ1 xs s1 e1 R q1=>?_
 refine xH hg h R (e1.blk nd) (ds:=[]) rfl q1 fun ys σ' H2 ⟨F2,Γ2,d2,s2,e2,r2,hz,q2⟩=>⟨by rw[r2.length];exact hz,fun l hl'=>k _ _ ?_⟩
 have eo:En K B F2 σ H2 (cm fr Γ1 Γ2):=e1.back (ls:=fr) e2 (by have:=sv (Γ:=Γ1) (σ:=σ) (bs:=jb fr);rw[yj] at this;exact this)
 exact Po.mono (s1.trans s2) (mS eo hl' r2 q2)
theorem GG {elt:Expr} {te:TE} {e3:TE3} (hx:Y.xe=fun _ _=>False) (he:P3 K Y elt te e3):Jy K Y Da (AX elt Da Y.env) (yF te) (tD e3):=⟨Aw hx he.pe,se he.rf⟩
theorem K5 {c:Expr} {tc:TT} {c3:TT3} {m:Sem Fin→Sem Fin} {t:TB} {b3:nu} (hx:Y.xe=fun _ _=>False) (hc:P3T K Y c tc c3) (hm:Jy K Y Da m t b3):Jy K Y Da (ifK c Y.env m) (bIf tc t) (Ca c3 b3):=⟨Ke hx hc.pe hm.pe,Ao hc.rf hm.rf⟩
theorem Dl {elt iter tg c:Expr} {sc:Scope} {Nc:List Str} {fr:List (Option Nat)} {wi:TI} {i3:TI3} {g:TG} {g3:TG3} {te:TE} {e3:TE3} {tc:TT} {c3:TT3} (hc:X.calm=true) (hi:P3I K X tg iter wi i3) (Bk:Blk X.N X.env.scope sc Nc fr)
  (hg:∀ s₀ H₀ C ex pn,P3G K (bS X sc Nc s₀ H₀ C ex pn) tg g g3) (ht:∀ s₀ H₀ C ex pn,P3T K (bS X sc Nc s₀ H₀ C ex pn) c tc c3) (he:∀ s₀ H₀ C ex pn,P3 K (bS X sc Nc s₀ H₀ C ex pn) elt te e3) (nd:(fr.filterMap id).Nodup:=by decide) (hs:∀ x,foldedSetIterable iter X.env x=pure x:=by intro _;rfl) :
  P3 K X (.ListComp elt [⟨tg,iter,[c],0⟩] sc pos) (vq fr wi g (bIf tc (yF te))) (oq fr i3 g3 (Ca c3 (tD e3))):=
 ⟨xP (m:=fun D env=>ifK c env (AX elt D env)) hc hi.pe Bk (fun a b c d e=>(hg a b c d e).pe) (fun a b c d e D=>(K5 rfl (ht a b c d e) (GG rfl (he a b c d e))).pe) (fun _ _ _=>rfl) hs,uI nd hi.rf (hg X.s₀ X.H₀ 0 [] []).rf (Ao (ht X.s₀ X.H₀ 0 [] []).rf (se (he X.s₀ X.H₀ 0 [] []).rf))⟩
theorem xT {elt i0 t0 i1 t1:Expr} {sc:Scope} {Nc:List Str} {fr:List (Option Nat)} {wi:TI} {i3:TI3} {g:TG} {g3:TG3} {wi1:TI} {j3:TI3} {g1:TG} {h3:TG3} {te:TE} {e3:TE3} (hc:X.calm=true) (hi:P3I K X t0 i0 wi i3) (Bk:Blk X.N X.env.scope sc Nc fr)
  (hg:∀ s₀ H₀ C ex pn,P3G K (bS X sc Nc s₀ H₀ C ex pn) t0 g g3) (hj:∀ s₀ H₀ C ex pn,P3I K (bS X sc Nc s₀ H₀ C ex pn) t1 i1 wi1 j3) (hh:∀ s₀ H₀ C ex pn,P3G K (bS X sc Nc s₀ H₀ C ex pn) t1 g1 h3)
  (he:∀ s₀ H₀ C ex pn,P3 K (bS X sc Nc s₀ H₀ C ex pn) elt te e3) (hs1:∀ s₀ H₀ C ex pn x,foldedSetIterable i1 (bS X sc Nc s₀ H₀ C ex pn).env x=pure x:=by intros;rfl) (nd:(fr.filterMap id).Nodup:=by decide) (hs:∀ x,foldedSetIterable i0 X.env x=pure x:=by intro _;rfl) :
  P3 K X (.ListComp elt [⟨t0,i0,[],0⟩,⟨t1,i1,[],0⟩] sc pos) (vq fr wi g (EK wi1 g1 (yF te))) (oq fr i3 g3 (xD j3 h3 (tD e3))):=
 ⟨xP (m:=fun D env=>Ha elt [⟨t0,i0,[],0⟩,⟨t1,i1,[],0⟩] sc pos 1 i1 D env) hc hi.pe Bk (fun a b c d e=>(hg a b c d e).pe)
  (fun a b c d e D=>FI (m:=AX elt D _) rfl hc (by rfl) (hj a b c d e).pe (hh a b c d e).pe (Aw rfl (he a b c d e).pe) (fun _=>rfl) (hs1 a b c d e)) (fun _ _ _=>rfl) hs,
  uI nd hi.rf (hg X.s₀ X.H₀ 0 [] []).rf (CP (hj X.s₀ X.H₀ 0 [] []).rf (hh X.s₀ X.H₀ 0 [] []).rf (se (he X.s₀ X.H₀ 0 [] []).rf))⟩
end
end L3
namespace L3
open PySem L2 PySem.Spec
theorem Ek {n:Nat} {a b:Int}:eqN n (.int a) (.int b)=some (a == b):=by cases n <;> rfl
theorem tq {n:Nat} {a b:Str}:eqN n (.str a) (.str b)=some (a == b):=by cases n <;> rfl
theorem El {n:Nat} {a b:Bool}:eqN n (.bl a) (.bl b)=some (a == b):=by cases n <;> rfl
def fo (s:Option D):Option Sl:=s.map Sl.fz
theorem n4 {s:Option Sl} {Γ:G} {i:Nat}:dW (s::Γ) (i + 1)=dW Γ i:=rfl
theorem zQ {Γ:G}:dW (none::Γ) 0=True:=rfl
theorem zN {d:D} {Γ:G}:dW (some (.fz d)::Γ) 0=True:=rfl
theorem zO {d:D} {Γ:G}:dW (some (.ow d)::Γ) 0=True:=rfl
theorem n5 {s:Option D} {Γ:G}:dW (fo s::Γ) 0=True:=by cases s <;> rfl
end L3
universe u
namespace L3
open PySem L2 PySem.Spec
structure Tag {α:Sort u} (q:α):Type where
def m1 (o:Option D) (k:D→Prop) (_:Tag k):Prop:=match o with
 | some d=>k d
 | none=>False
theorem jk {d:D} {k:D→Prop} {t:Tag k}:m1 (some d) k t=k d:=rfl
theorem dU {o:Option D} {k:D→Prop} {t:Tag k}:m1 o k t↔∃ d,o=some d∧k d:=by
 cases o with
 | none=>exact⟨fun h=>h.elim,fun ⟨_,h,_⟩=>by cases h⟩
 | some d=>exact⟨fun h=>⟨d,rfl,h⟩,fun ⟨_,h,q⟩=>by cases h;exact q⟩
def hold (S:S3) (Γ:G) (Q:RV→G→Prop) (_:Tag Q):Prop:=S Γ Q
def AY (fr:List (Option Nat)) (i3:TI3) (g3:TG3) (e3:TE3) (Γ:G) (Q:RV→G→Prop) (_:Tag (fr,i3,g3,e3)) (_:Tag Q):Prop:=tG fr i3 g3 e3 Γ Q
def Jk (i3:TI3) (g3:TG3) (b3:TS3) (D:E3) (Γ:G) (_:Tag (i3,g3,b3)) (_:Tag D):Prop:=Jl i3 g3 b3 D Γ
def wZ (fr:List (Option Nat)) (i3:TI3) (g3:TG3) (b3:nu) (Γ:G) (Q:RV→G→Prop) (_:Tag (fr,i3,g3,b3)) (_:Tag Q):Prop:=oq fr i3 g3 b3 Γ Q
theorem tF {fr:List (Option Nat)} {i3:TI3} {g3:TG3} {b3:nu} {Γ:G} {Q:RV→G→Prop}:oq fr i3 g3 b3 Γ Q=wZ fr i3 g3 b3 Γ Q ⟨⟩ ⟨⟩:=rfl
theorem w4 {fr:List (Option Nat)} {i3:TI3} {g3:TG3} {e3:TE3} {Γ:G} {Q:RV→G→Prop}:tG fr i3 g3 e3 Γ Q=AY fr i3 g3 e3 Γ Q ⟨⟩ ⟨⟩:=rfl
theorem zS {i3:TI3} {g3:TG3} {b3:TS3} {D:E3} {Γ:G}:Jl i3 g3 b3 D Γ=Jk i3 g3 b3 D Γ ⟨⟩ ⟨⟩:=rfl
section
variable {op:D→D→TE3} {a3 b3:TB3} {Γ:G} {Q:RV→G→Prop}
theorem lB:oE op a3 b3 Γ Q=(a3 Γ fun x Γ1=>b3 Γ1 fun y Γ2=>m1 (x.at Γ2) (fun dx=>m1 (y.at Γ2) (fun dy=>op dx dy Γ2 Q) ⟨⟩) ⟨⟩):=by
 unfold oE
 congr;funext x Γ1;congr;funext y Γ2
 refine propext ⟨fun ⟨dx,dy,h1,h2,h3⟩=>by rw[h1,h2];exact h3,fun h=>?_⟩
 obtain⟨dx,h1,h⟩:=dU.mp h
 obtain⟨dy,h2,h⟩:=dU.mp h
 exact⟨dx,dy,h1,h2,h⟩
theorem yT {op:D→TE3}:Cy op a3 Γ Q=(a3 Γ fun x Γ1=>m1 (x.at Γ1) (fun dx=>op dx Γ1 Q) ⟨⟩):=by
 unfold Cy
 congr;funext x Γ1
 exact propext dU.symm
theorem AL {xs:List D} {i:Int}:ix3 (.lst xs) (.int i) Γ Q=m1 (atI xs i) (fun d=>Q (.fz d) Γ) ⟨⟩:=propext dU.symm
theorem DV {xs:List D} {i:Int}:ix3 (.tup xs) (.int i) Γ Q=m1 (atI xs i) (fun d=>Q (.fz d) Γ) ⟨⟩:=propext dU.symm
def mL (o:Option (List D)) (k:List D→Prop) (_:Tag k):Prop:=match o with
 | some d=>k d
 | none=>False
theorem ke {d:List D} {k:List D→Prop} {t:Tag k}:mL (some d) k t=k d:=rfl
theorem kI {c3:List D→TE3} {t3:j4}:yt c3 t3 Γ Q=(t3 Γ fun bs Γ1=>mL (ats Γ1 bs) (fun ds=>c3 ds Γ1 Q) ⟨⟩):=by
 unfold yt
 congr;funext bs Γ1
 refine propext ⟨fun ⟨ds,h,q⟩=>by rw[h];exact q,fun h=>?_⟩
 cases e:ats Γ1 bs with
 | none=>rw[e] at h;exact h.elim
 | some ds=>rw[e] at h;exact⟨ds,rfl,h⟩
def mN (o:Option Nat) (k:Nat→Prop) (_:Tag k):Prop:=match o with
 | some d=>k d
 | none=>False
theorem wq {d:Nat} {k:Nat→Prop} {t:Tag k}:mN (some d) k t=k d:=rfl
def mI (o:Option D) (k:Int→Prop) (_:Tag k):Prop:=match o with
 | some (.int d)=>k d
 | _=>False
theorem wt {d:Int} {k:Int→Prop} {t:Tag k}:mI (some (.int d)) k t=k d:=rfl
theorem vA {i:Nat} {k3:TB3} {e3:TE3} {D:E3}:Ak i k3 e3 D Γ=(e3 Γ fun r Γ1=>(∃ xs,ck Γ1 i=some xs)∧k3 Γ1 fun b Γ2=>mL (ck Γ2 i) (fun xs=>mI (b.at Γ2) (fun k=>mN (ixN xs.length k) (fun j=>D.nx (putD Γ2 i (.lst (xs.set j r.d)))) ⟨⟩) ⟨⟩) ⟨⟩):=by
 unfold Ak
 congr;funext r Γ1;congr;funext b Γ2
 refine propext ⟨fun ⟨xs,k,j,h1,h2,h3,q⟩=>?_,fun h=>?_⟩
 ·rw[h1,h2];show mN (ixN xs.length k) _ ⟨⟩;rw[h3];exact q
 ·cases e:ck Γ2 i with
  | none=>rw[e] at h;exact h.elim
  | some xs=>
   rw[e] at h
   replace h:mI (b.at Γ2) (fun k=>mN (ixN xs.length k) (fun j=>D.nx (putD Γ2 i (.lst (xs.set j r.d)))) ⟨⟩) ⟨⟩:=h
   cases e2:b.at Γ2 with
   | none=>rw[e2] at h;exact h.elim
   | some d=>
    rw[e2] at h
    cases d with
    | int k=>
     replace h:mN (ixN xs.length k) (fun j=>D.nx (putD Γ2 i (.lst (xs.set j r.d)))) ⟨⟩:=h
     cases e3:ixN xs.length k with
     | none=>rw[e3] at h;exact h.elim
     | some j=>rw[e3] at h;exact⟨xs,k,j,rfl,rfl,e3,h⟩
    | _=>exact h.elim
theorem EE {n:Nat} {S:S3} {t3:j4}:tI n S t3 Γ Q=(t3 Γ fun bs Γ1=>bs.length=n∧(ej bs).Nodup∧hold S (fA Γ1 (bs.map some)) (fun r Γa=>Q r (cm ((bs.map some).map dz) Γ1 Γa)) ⟨⟩):=rfl
theorem Gb {C:Addr} {m:Str} {n:Nat} {S:S3} {o3:TB3} {t3:j4}:ji C m n S o3 t3 Γ Q=(o3 Γ fun x Γ1=>(∃ ns xs,x.at Γ1=some (.ins C ns xs)∧m∉ns)∧t3 Γ1 fun bs Γ2=>bs.length + 1=n∧(ej (x::bs)).Nodup∧hold S (fA Γ2 ((x::bs).map some)) (fun r Γa=>Q r (cm (((x::bs).map some).map dz) Γ2 Γa)) ⟨⟩):=rfl
end
end L3
namespace L3
open PySem L2
section
variable {K:PySem.W.Frag} {B:Bs} {F:Hp} {σ:L2.St} {H:Hp} {Γ:G}
theorem yl {α:Type} {l:List α} {a b:α} {i:Nat} (h:(l++[a])[i]?=some b):l[i]?=some b∨(i=l.length∧b=a):=by
 rcases Nat.lt_or_ge i l.length with q | q
 ·rw[List.getElem?_append_left q] at h;exact .inl h
 ·have q2:i=l.length:=by
   have:=(List.getElem?_eq_some_iff.mp h).1
   rw[List.length_append,List.length_singleton] at this
   omega
  subst q2
  rw[List.getElem?_append_right (Nat.le_refl _),Nat.sub_self] at h
  exact .inr ⟨rfl,(Option.some.inj h).symm⟩
theorem eA {α:Type} {l:List α} {a b:α} {i:Nat} (h:l[i]?=some b):(l++[a])[i]?=some b:=by
 rw[List.getElem?_append_left (List.getElem?_eq_some_iff.mp h).1];exact h
theorem fX {α:Type} {l:List α} {a:α}:(l++[a])[l.length]?=some a:=by
 rw[List.getElem?_append_right (Nat.le_refl _),Nat.sub_self];rfl
theorem En.push (e:En K B F σ H Γ) {x:Addr} {d:D} (rv:mJ K B F σ H Γ (.ref x) (.fr d)):En K B F (σ++[some (V.ref x)]) H (Γ++[some (Sl.ow d)]):=by
 obtain⟨p,e1,hF,ho,hB,hn⟩:=rv
 cases e1
 have hl:=e.len
 have hG:∀ {i:Nat} {s:Sl},(Γ++[some (Sl.ow d)])[i]?=some (some s)→Γ[i]?=some (some s)∨(i=Γ.length∧s=.ow d):=fun h=>by
  rcases yl h with q | ⟨q,q2⟩
  ·exact .inl q
  ·cases q2;exact .inr ⟨q,rfl⟩
 have hS:∀ {i:Nat} {s:Option Sl},Γ[i]?=some s→(σ++[some (V.ref x)])[i]?=σ[i]?:=fun h=>by
  have lt:=(List.getElem?_eq_some_iff.mp h).1
  rw[List.getElem?_append_left (by omega)]
 have hat:(σ++[some (V.ref x)])[Γ.length]?=some (some (V.ref x)):=by rw[← hl];exact fX
 have hH:∀ {i:Nat} {c:D},Hld (Γ++[some (Sl.ow d)]) i c→Hld Γ i c∨(i=Γ.length∧c=d):=fun h=>by
  rcases h with h | h
  ·rcases hG h with q | ⟨q,q2⟩
   ·exact .inl (.inl q)
   ·cases q2;exact .inr ⟨q,rfl⟩
  ·rcases hG h with q | ⟨q,q2⟩
   ·exact .inl (.inr q)
   ·cases q2
 have hHS:∀ {i:Nat} {c:D},Hld Γ i c→(σ++[some (V.ref x)])[i]?=σ[i]?:=fun h=>by
  rcases h with h | h <;> exact hS h
 refine⟨e.sub,by simp [hl],?_,?_,?_,?_,?_,?_,e.keep,e.new,e.rest,e.dom⟩
 ·intro i c h
  rcases hG h with q | ⟨_,q⟩
  ·rw[hS q];exact e.fz i c q
  ·cases q
 ·intro i c h
  rcases hH h with q | ⟨rfl,rfl⟩
  ·rw[hHS q];exact e.hl i c q
  ·exact⟨x,hat,hF,ho⟩
 ·intro i c q h a
  rcases hG h with z | ⟨rfl,z⟩
  ·rw[hS z] at a;exact e.ow i c q z a
  ·rw[hat] at a;cases a;exact hB
 ·intro i c q h a
  rcases hG h with z | ⟨_,z⟩
  ·rw[hS z] at a;exact e.ln i c q z a
  ·cases z
 ·intro i j c c' q h h' a a'
  rcases hH h with z | ⟨rfl,rfl⟩
  ·rw[hHS z] at a
   rcases hH h' with z' | ⟨rfl,rfl⟩
   ·rw[hHS z'] at a';exact e.dis i j c c' q z z' a a'
   ·rw[hat] at a';cases a';exact absurd a (hn i c z)
  ·rw[hat] at a;cases a
   rcases hH h' with z' | ⟨rfl,rfl⟩
   ·rw[hHS z'] at a';exact absurd a' (hn j c' z')
   ·rfl
 ·intro i q h
  obtain⟨a,c,b⟩:=e.par i q h
  exact⟨by rw[hS b];exact a,c,eA b⟩
theorem En.pop {x:Addr} {d:D} (e:En K B F (σ++[some (V.ref x)]) H (Γ++[some (Sl.ow d)])):En K B F σ H Γ∧mJ K B F σ H Γ (.ref x) (.fr d):=by
 have hl:σ.length=Γ.length:=by have:=e.len;simpa using this
 have hat:(σ++[some (V.ref x)])[Γ.length]?=some (some (V.ref x)):=by rw[← hl];exact fX
 have hS:∀ {i:Nat} {s:Option Sl},Γ[i]?=some s→(σ++[some (V.ref x)])[i]?=σ[i]?:=fun h=>by
  have lt:=(List.getElem?_eq_some_iff.mp h).1
  rw[List.getElem?_append_left (by omega)]
 have hL:Hld (Γ++[some (Sl.ow d)]) Γ.length d:=.inl fX
 have up:∀ {i:Nat} {c:D},Hld Γ i c→Hld (Γ++[some (Sl.ow d)]) i c:=fun h=>h.imp eA eA
 have hHS:∀ {i:Nat} {c:D},Hld Γ i c→(σ++[some (V.ref x)])[i]?=σ[i]?:=fun h=>by
  rcases h with h | h <;> exact hS h
 obtain⟨p,a,b,c⟩:=e.hl _ _ hL
 rw[hat] at a;cases a
 refine⟨⟨e.sub,hl,?_,?_,?_,?_,?_,?_,e.keep,e.new,e.rest,e.dom⟩,x,rfl,b,c,e.ow _ _ _ fX hat,?_⟩
 ·intro i c h
  have:=e.fz i c (eA h)
  rwa [hS h] at this
 ·intro i c h
  have:=e.hl i c (up h)
  rwa [hHS h] at this
 ·intro i c q h a
  exact e.ow i c q (eA h) (by rw[hS h];exact a)
 ·intro i c q h a
  exact e.ln i c q (eA h) (by rw[hS h];exact a)
 ·intro i j c c' q h h' a a'
  exact e.dis i j c c' q (up h) (up h') (by rw[hHS h];exact a) (by rw[hHS h'];exact a')
 ·intro i q h
  obtain⟨a,c,b'⟩:=e.par i q h
  rcases yl b' with z | ⟨_,z⟩
  ·exact⟨by rw[← hS z];exact a,c,z⟩
  ·cases z
 ·intro i c h q
  have lt:i < Γ.length:=by rcases h with h | h <;> exact(List.getElem?_eq_some_iff.mp h).1
  have:=e.dis i _ c d x (up h) hL (by rw[hHS h];exact q) hat
  omega
end
end L3
namespace L3
open PySem L2
section
variable {K:PySem.W.Frag} {B:Bs} {F:Hp} {σ:L2.St} {H:Hp} {Γ:G}
theorem En.LC (e:En K B F σ H Γ) {i:Nat} {d0 d1:D} (hh:Hld Γ i d0) {p:Addr} (hp:σ[i]?=some (some (V.ref p))) {o1:HO} (r:Own K F (upd H p o1) p d1):En K B F σ (upd H p o1) (putD Γ i d1):=by
 obtain⟨p0,a0,b0,c0⟩:=e.hl i _ hh
 rw[hp] at a0;cases a0
 obtain⟨o,ho⟩:=c0.some
 have hput:(Γ[i]?=some (some (Sl.ow d0))∧putD Γ i d1=Γ.set i (some (.ow d1)))∨(Γ[i]?=some (some (Sl.ln d0))∧putD Γ i d1=Γ.set i (some (.ln d1))):=by
  rcases hh with q | q
  ·exact .inl ⟨q,by unfold putD;rw[q]⟩
  ·exact .inr ⟨q,by unfold putD;rw[q]⟩
 have il:i < Γ.length:=by rcases hput with ⟨q,_⟩ | ⟨q,_⟩ <;> exact(List.getElem?_eq_some_iff.mp q).1
 have other:∀ {j:Nat},j≠i→(putD Γ i d1)[j]?=Γ[j]?:=fun z=>by
  rcases hput with ⟨_,q⟩ | ⟨_,q⟩ <;> rw[q,dJ (Ne.symm z)]
 have same:∀ {s:Sl},(putD Γ i d1)[i]?=some (some s)→(s=.ow d1∧Γ[i]?=some (some (Sl.ow d0)))∨(s=.ln d1∧Γ[i]?=some (some (Sl.ln d0))):=fun {s} q=>by
  rcases hput with ⟨a,b⟩ | ⟨a,b⟩
  ·rw[b,ba il] at q;cases q;exact .inl ⟨rfl,a⟩
  ·rw[b,ba il] at q;cases q;exact .inr ⟨rfl,a⟩
 have hld:∀ {j x},Hld (putD Γ i d1) j x→(j=i∧x=d1)∨(j≠i∧Hld Γ j x):=fun {j x} q=>by
  by_cases z:j=i
  ·subst z
   left
   rcases q with q | q <;> rcases same q with ⟨h,_⟩ | ⟨h,_⟩ <;> cases h <;> exact⟨rfl,rfl⟩
  ·right;exact⟨z,by unfold Hld at q ⊢;rw[other z] at q;exact q⟩
 have hld':∀ {j x},Hld (putD Γ i d1) j x→∃ y,Hld Γ j y:=fun q=>by
  rcases hld q with ⟨rfl,_⟩ | ⟨_,q⟩
  ·exact⟨_,hh⟩
  ·exact⟨_,q⟩
 refine⟨?_,?_,?_,?_,?_,?_,?_,?_,e.keep,e.new,?_,?_⟩
 ·intro b u q
  have z:b≠p:=fun z=>by subst z;rw[b0] at q;cases q
  rw[au z];exact e.sub b u q
 ·rcases hput with ⟨_,q⟩ | ⟨_,q⟩ <;> rw[q,List.length_set] <;> exact e.len
 ·intro j d q
  by_cases z:j=i
  ·subst z;rcases same q with ⟨h,_⟩ | ⟨h,_⟩ <;> cases h
  ·rw[other z] at q;exact e.fz j d q
 ·intro j d q
  rcases hld q with ⟨rfl,rfl⟩ | ⟨z,q⟩
  ·exact⟨p,hp,b0,r⟩
  ·obtain⟨p',a,b,c⟩:=e.hl j d q
   have ne:p'≠p:=fun y=>z (e.dis j i _ _ p q hh (y ▸ a) hp)
   exact⟨p',a,b,c.mono (aL.refl F) (au ne)⟩
 ·intro j d p' q a
  by_cases z:j=i
  ·subst z
   rcases same q with ⟨h,g⟩ | ⟨h,g⟩
   ·exact e.ow j _ p' g a
   ·cases h
  ·rw[other z] at q;exact e.ow j d p' q a
 ·intro j d p' q a
  by_cases z:j=i
  ·subst z
   rcases same q with ⟨h,g⟩ | ⟨h,g⟩
   ·cases h
   ·exact e.ln j _ p' g a
  ·rw[other z] at q;exact e.ln j d p' q a
 ·intro j k d d' p' q1 q2
  obtain⟨y1,h1⟩:=hld' q1
  obtain⟨y2,h2⟩:=hld' q2
  exact e.dis j k y1 y2 p' h1 h2
 ·intro j p' q
  obtain⟨a,d,b⟩:=e.par j p' q
  refine⟨a,?_⟩
  by_cases z:j=i
  ·subst z
   rcases hput with ⟨c,_⟩ | ⟨_,c⟩
   ·rw[b] at c;cases c
   ·exact⟨_,by rw[c,ba il]⟩
  ·exact⟨d,by rw[other z];exact b⟩
 ·intro b u q n
  have z:b≠p:=fun z=>by
   subst z
   rcases hh with g | g
   ·rw[e.ow i _ _ g hp] at q;cases q
   ·exact n i (e.ln i _ _ g hp)
  rw[au z];exact e.rest b u q n
 ·intro b q
  by_cases z:b=p
  ·subst z;rw[aN] at q;cases q
  ·rw[au z] at q;exact e.dom b q
def ph (Γ:G) (i:Nat):Option (Addr×List Str×List D):=match Γ[i]? with
 | some (some (.ow (.ins C ns xs)))=>some (C,ns,xs)
 | some (some (.ln (.ins C ns xs)))=>some (C,ns,xs)
 | _=>none
theorem uZ {i:Nat} {C:Addr} {ns:List Str} {xs:List D} (h:ph Γ i=some (C,ns,xs)):Hld Γ i (.ins C ns xs):=by
 unfold ph at h
 split at h
 ·cases h;rename_i q;exact .inl q
 ·cases h;rename_i q;exact .inr q
 ·cases h
theorem xN {f:Str} {v:V}:∀ {fs:List (Str×V)},f∉fs.map (·.1)→kY f v fs=fs++[(f,v)]
 | [],_=>rfl
 | (g,x)::r,h=>by
  simp only[List.map_cons,List.mem_cons,not_or] at h
  show (if g=f then _ else _)=_
  rw[if_neg (Ne.symm h.1),xN h.2];rfl
theorem aF.snoc {xs:List D} {vs:List V} (r:aF K F xs vs) {d:D} {v:V} (q:Rep K F d v):aF K F (xs++[d]) (vs++[v]):=r.append ⟨v,[],rfl,q,rfl⟩
def oI (o:Option (Addr×List Str×List D)) (k:Addr→List Str→List D→Prop):Prop:=match o with
 | some (C,ns,xs)=>k C ns xs
 | none=>False
def CC (C0:Addr) (i:Nat) (f:Str) (e3:TE3) (D:E3) (Γ:G):Prop:=e3 Γ fun r Γ1=>oI (ph Γ1 i) fun C ns xs=>C=C0∧(f∉ns∧ns.length < 1000)∧D.nx (putD Γ1 i (.ins C (ns++[f]) (xs++[r.d])))
variable {X:Cx} {e:Expr} {te:TE} {e3:TE3} {pos:Pos}
theorem CO {C0:Addr} {i:Nat} {f:Str} (hC:Cls K C0) (hn:gq K C0 f) (h:Ref K te e3):GZ K (HR K (dO i) te f) (CC C0 i f e3):=by
 intro B F σ H Γ D D3 en k q
 refine h B F σ H Γ _ _ en q fun v H1 ⟨F1,Γ1,r,s1,e1,rv,q1⟩=>?_
 obtain⟨F2,s2,e2,rp⟩:=e1.frozen rv
 have q2:oI (ph Γ1 i) fun C ns xs=>C=C0∧(f∉ns∧ns.length < 1000)∧D3.nx (putD Γ1 i (.ins C (ns++[f]) (xs++[r.d]))):=q1
 cases w:ph Γ1 i with
 | none=>rw[w] at q2;exact q2.elim
 | some t=>
  obtain⟨C,ns,xs⟩:=t
  rw[w] at q2
  obtain⟨rfl,⟨hf,hl⟩,q2⟩:=q2
  obtain⟨p,a,b,dx,gs,c1,c2,c3⟩:=e2.hl i _ (uZ w)
  refine⟨_,a,p,C,dx,gs,rfl,c1,hC,hn,?_,?_⟩
  ·have:=congrArg List.length c2;rw[List.length_map] at this;omega
  ·have hf':f∉gs.map (·.1):=by rw[c2];exact hf
   rw[xN hf']
   have ow:Own K F2 (upd H1 p (.ins C dx (gs++[(f,v)]))) p (.ins C (ns++[f]) (xs++[r.d])):=⟨dx,gs++[(f,v)],aN,by rw[List.map_append,c2];rfl,by rw[List.map_append];exact c3.snoc rp⟩
   exact k.nx F2 σ _ _ (s1.trans s2) (e2.LC (uZ w) a ow) q2
theorem vK {C0:Addr} (i:Nat) {x f:Str} {px p2:Pos} (hK:X.K=K) (hC:Cls K C0) (hn:gq K C0 f) (hx:P3B K X (.Name x px) (dO i) (bor i)) (he:P3 K X e te e3) (hs:swapsWith e (some (.Attribute (.Name x px) f p2)) pos.line X.env=pure false:=by rfl) :
  P3S K X (.Assign [.Attribute (.Name x px) f p2] e pos) (HR K (dO i) te f) (CC C0 i f e3):=⟨by subst hK;exact Ig hx.pe he.pe hs,CO hC hn he.rf⟩
end
end L3
namespace L3
open PySem L2
section
variable {K:PySem.W.Frag} {B:Bs} {F:Hp} {σ:L2.St} {H:Hp} {Γ:G} {X:Cx}
theorem de.push {x:V}:∀ {bs:List Bo} {vs:List V},de K F σ bs vs→de K F (σ++[some x]) bs vs
 | [],_,h=>h
 | .d d::bs,_,⟨v,ws,h1,h2,h3⟩=>⟨v,ws,h1,h2,de.push h3⟩
 | .v i::bs,_,⟨v,ws,h1,h2,h3⟩=>⟨v,ws,h1,eA h2,de.push h3⟩
theorem de.ds:∀ {ds:List D} {vs:List V},aF K F ds vs→de K F σ (ds.map Bo.d) vs
 | [],_,h=>h
 | _::_,_,⟨v,ws,h1,h2,h3⟩=>⟨v,ws,h1,h2,de.ds h3⟩
theorem mJ.pop {x:Addr} {d:D} {v:V}:∀ {r:RV},mJ K B F (σ++[some (V.ref x)]) H (Γ++[some (Sl.ow d)]) v r→σ.length=Γ.length→mJ K B F σ H Γ v r
 | .fz _,h,_=>h
 | .fr _,⟨p,h1,h2,h3,h4,h5⟩,hl=>⟨p,h1,h2,h3,h4,fun i e he q=>h5 i e (he.imp eA eA) (eA q)⟩
theorem yh:∀ ds:List D,ej (ds.map Bo.d)=[]
 | []=>rfl
 | _::ds=>yh ds
theorem GS (ds:List D) (Γ:G):fA Γ ((ds.map Bo.d).map some)=ds.map fun d=>some (Sl.fz d):=by
 unfold fA;rw[List.map_map,List.map_map];rfl
theorem AB {cs:G} {j:Nat}:∀ ds:List D,newD (((ds.map Bo.d).map some).map dz) cs j=none
 | []=>by cases cs <;> rfl
 | _::ds=>by
  cases cs with
  | nil=>rfl
  | cons c cs=>exact AB (cs:=cs) ds
def KP (Γa:G) (k:D→Prop):Prop:=match Γa with
 | some (.ln d)::_=>k d
 | _=>False
def Mm:D→Bool
 | .non=>true
 | _=>false
def AE (C:Addr) (n:Nat) (S:S3) (t3:TA3) (Γ:G) (Q:RV→G→Prop):Prop:=t3 Γ fun ds Γ1=>ds.length + 1=n∧
 S (some (.ln (.ins C [] []))::ds.map fun d=>some (.fz d)) fun r Γa=>r=.fz .non∧KP Γa fun d=>Q (.fr d) Γ1
theorem CQ {C:Addr} {n:Nat} {S:S3} {E:XK} {t:TA} {t3:TA3} (h:La K t t3):Ref K (Cv C (sp3 K n S) [] E t) (AE C n S t3):=by
 intro B F σ H Γ Q QQ e q k
 refine h B F σ H Γ _ _ e q fun vs H1 ⟨F1,Γ1,ds,s1,e1,r1,hn,q1⟩=>?_
 intro y dy hy hdy ne
 rw[List.append_nil]
 have a1:=e1.alloc hdy (.own y)
 have hy':(upd H1 dy (.own y)) y=none:=by rw[au (Ne.symm ne)];exact hy
 have e2:En K B F1 σ (upd (upd H1 dy (.own y)) y (.ins C dy [])) Γ1:=a1.alloc hy' _
 have rv:mJ K B F1 σ (upd (upd H1 dy (.own y)) y (.ins C dy [])) Γ1 (.ref y) (.fr (.ins C [] [])):=⟨y,rfl,a1.nof hy',⟨dy,[],aN,rfl,rfl⟩,e1.dom _ hy,a1.BG hy'⟩
 have ep:=e2.push rv
 have hl:σ.length=Γ1.length:=e1.len
 have rb:de K F1 (σ++[some (V.ref y)]) (Bo.v Γ1.length::ds.map Bo.d) (.ref y::vs):=⟨_,_,rfl,by rw[← hl];exact fX,(de.ds r1).push⟩
 have nd:(ej (Bo.v Γ1.length::ds.map Bo.d)).Nodup:=by
  show (Γ1.length::ej (ds.map Bo.d)).Nodup
  rw[yh];simp
 have eG:fA (Γ1++[some (Sl.ow (.ins C [] []))]) ((Bo.v Γ1.length::ds.map Bo.d).map some)=some (.ln (.ins C [] []))::ds.map fun d=>some (.fz d):=by
  rw[List.map_cons,← GS ds (Γ1++[some (Sl.ow (.ins C [] []))])]
  show (some (Bo.v Γ1.length)).bind (jY _)::_=_
  congr 1
  show fI (Γ1++[some (Sl.ow (.ins C [] []))])[Γ1.length]?=_
  rw[fX];rfl
 have len:(V.ref y::vs).length=n:=by rw[← hn,List.length_cons,r1.length]
 refine⟨len,F1,_,_,_,ep.args rb nd,rL,by rw[eG];exact q1,fun r Γa q2 v H' F' e3 rv'=>?_⟩
 obtain⟨rfl,q2⟩:=q2
 obtain⟨sm,eb,_⟩:=ep.called e3 rv'
 have ev:v=.non:=rv'
 cases Γa with
 | nil=>exact q2.elim
 | cons s Γr=>
  cases s with
  | none=>exact q2.elim
  | some s=>
   cases s with
   | fz d=>exact q2.elim
   | ow d=>exact q2.elim
   | ln d=>
    have q2:Q (.fr d) Γ1:=q2
    have eq:cm (((Bo.v Γ1.length::ds.map Bo.d).map some).map dz) (Γ1++[some (Sl.ow (.ins C [] []))]) (some (.ln d)::Γr)=Γ1++[some (Sl.ow d)]:=by
     refine List.ext_getElem? fun j=>?_
     rw[eQ]
     show Option.map (nI (if Γ1.length=j then some d else newD (((ds.map Bo.d).map some).map dz) Γr j)) _=_
     by_cases hj:Γ1.length=j
     ·subst hj
      rw[if_pos rfl,fX,fX];rfl
     ·rw[if_neg hj,AB]
      have:(Γ1++[some (Sl.ow d)])[j]?=(Γ1++[some (Sl.ow (.ins C [] []))])[j]?:=by
       rcases Nat.lt_or_ge j Γ1.length with z | z
       ·rw[List.getElem?_append_left z,List.getElem?_append_left z]
       ·rw[List.getElem?_eq_none (by simp;omega),List.getElem?_eq_none (by simp;omega)]
      rw[this]
      cases (Γ1++[some (Sl.ow (.ins C [] []))])[j]? with
      | none=>rfl
      | some s=>cases s with
       | none=>rfl
       | some s=>cases s <;> rfl
    rw[eq] at eb
    obtain⟨e5,rv5⟩:=eb.pop
    exact⟨ev,k _ _ ⟨F',Γ1,.fr d,s1.trans sm,e5,rv5,q2⟩⟩
end
end L3
namespace L3
open PySem L2
section
variable {K:PySem.W.Frag} {B:Bs} {F:Hp} {σ:L2.St} {H:Hp} {Γ:G} {X:Cx} {C f:Addr} {fd:FuncData} {ps:List Str} {x m:Str} {k n:Nat} {S:S3} {p pos:Pos} {e:Expr} {es:List Expr} {t:TA} {t3:TA3} {te:TE} {e3:TE3}
theorem Az (M:Mk X.K C f) (F:aT X.prog X.w X.K X.mg X.base CX0 k f fd ps (sp3 K n S)) (hr:eg (k + 1) X.A) (hg:Gl X x) (hm:X.mg x=some (.ref C)) (hb:Binds X.K fd ps [])
  (ha:P3A K X (e::es) t t3) (hdb:(x == ("__debug__":Str))=false:=by decide) (he:starEach (e::es) X.env=(false,eval e X.env)::starEach es X.env:=by rfl) (hpl:(backTo pos (starEach es X.env)).any (·.1)=false:=by rfl) :
  P3 K X (.Call (.Name x p) (e::es) [] pos) (Cv C (sp3 K n S) [] E0 t) (AE C n S t3):=⟨FD M F hr hg hm hb .nil uM ha.pe hdb he hpl,CQ ha.rf⟩
def frR (r:RV) (k:D→Prop):Prop:=match r with
 | .fr d=>k d
 | _=>False
def xa (i:Nat) (S:S3) (e3:TE3) (Γ:G) (Q:RV→G→Prop):Prop:=(∃ d,Gat Γ i=some d)∧e3 Γ fun r Γ1=>frR r fun d=>S [jY Γ1 (.v i),some (.ln d)] fun r' Γa=>Q r' (cm [some i,none] Γ1 Γa)
theorem Bu {i:Nat} {E:XK} (h:Ref K te e3):Ref K (rR (sp3 K 2 S) [] E (ip (dO i) (ip te lA))) (xa i S e3):=by
 intro B F σ H Γ Q QQ en q k
 obtain⟨⟨d0,hg⟩,q⟩:=q
 obtain⟨v,hv,_⟩:=en.get hg
 refine⟨v,hv,?_⟩
 refine h B F σ H Γ _ _ en q fun v2 H1 ⟨F1,Γ1,r,s1,e1,rv,q1⟩=>?_
 show sp3 K 2 S ([v,v2]++[]) H1 QQ E
 rw[List.append_nil]
 cases r with
 | fz d=>exact q1.elim
 | fr d=>
  have q1:S [jY Γ1 (.v i),some (.ln d)] fun r' Γa=>Q r' (cm [some i,none] Γ1 Γa):=q1
  have rv0:=rv
  obtain⟨y,rfl,_⟩:=rv0
  have ep:=e1.push rv
  have hl:σ.length=Γ1.length:=e1.len
  have il:i < Γ1.length:=by rw[← hl];exact(List.getElem?_eq_some_iff.mp hv).1
  have rb:de K F1 (σ++[some (V.ref y)]) [Bo.v i,Bo.v Γ1.length] [v,.ref y]:=⟨_,_,rfl,eA hv,_,_,rfl,by rw[← hl];exact fX,rfl⟩
  have nd:(ej [Bo.v i,Bo.v Γ1.length]).Nodup:=by
   show [i,Γ1.length].Nodup
   simp;omega
  have eG:fA (Γ1++[some (Sl.ow d)]) ([Bo.v i,Bo.v Γ1.length].map some)=[jY Γ1 (.v i),some (.ln d)]:=by
   show [fI (Γ1++[some (Sl.ow d)])[i]?,fI (Γ1++[some (Sl.ow d)])[Γ1.length]?]=_
   rw[fX,List.getElem?_append_left il];rfl
  refine⟨rfl,F1,_,_,_,ep.args rb nd,rL,by rw[eG];exact q1,fun r Γa q2 v' H' F' e4 rv'=>?_⟩
  obtain⟨sm,eb,rb'⟩:=ep.called e4 rv'
  have l2:Γa.length=2:=by have:=e4.len;rw[← this];rfl
  have mem:(1,y)∈ownOf (Γ1++[some (Sl.ow d)]) (σ++[some (V.ref y)]) ([Bo.v i,Bo.v Γ1.length].map some):=mW.mpr ⟨Γ1.length,d,rfl,.inl fX,by rw[← hl];exact fX⟩
  obtain⟨_,d',hd'⟩:=e4.par 1 y mem
  obtain⟨a,rfl⟩:∃ a,Γa=[a,some (.ln d')]:=by
   match Γa,l2,hd' with
   | [a,b],_,hd'=>
    have:b=some (.ln d'):=by simpa using hd'
    exact⟨a,by rw[this]⟩
  have eq:cm (([Bo.v i,Bo.v Γ1.length].map some).map dz) (Γ1++[some (Sl.ow d)]) [a,some (.ln d')]=cm [some i,none] Γ1 [a,some (.ln d')]++[some (Sl.ow d')]:=by
   have bl:(cm [some i,none] Γ1 [a,some (.ln d')]).length=Γ1.length:=by unfold cm;simp
   refine List.ext_getElem? fun j=>?_
   rw[eQ]
   rcases Nat.lt_trichotomy j Γ1.length with z | z | z
   ·rw[List.getElem?_append_left z,List.getElem?_append_left (by rw[bl];exact z),eQ]
    congr 2
    show newD [some i,some Γ1.length] [a,some (.ln d')] j=newD [some i,none] [a,some (.ln d')] j
    simp only[newD]
    have nj:¬ Γ1.length=j:=by omega
    simp only[nj,if_false]
   ·subst z
    rw[fX,← bl,fX]
    show Option.map (nI (newD [some i,some _] [a,some (.ln d')] _)) _=_
    simp only[newD]
    have nj:¬ i=Γ1.length:=by omega
    rw[bl]
    simp only[nj,if_false,if_true]
    rfl
   ·rw[List.getElem?_eq_none (by simp;omega),List.getElem?_eq_none (by rw[List.length_append,bl];simp;omega)]
    rfl
  rw[eq] at eb rb'
  obtain⟨e5,_⟩:=eb.pop
  exact k v' H' ⟨F',_,r,s1.trans sm,e5,mJ.pop rb' e5.len,q2⟩
theorem xU {o a:Expr} {i:Nat} (hK:X.K=K) (F:aT X.prog X.w X.K X.mg X.base CX0 k f fd ps (sp3 K 2 S)) (hr:eg k X.A) (hg:Gl X x) (hm:X.mg x=some (.ref f)) (hk:PySem.W.keepIn X.K (.ref f)=true) (hb:Binds X.K fd ps [])
  (ho:P3B K X o (dO i) (bor i)) (ha:P3 K X a te e3) (hdb:(x == ("__debug__":Str))=false:=by decide) (he:starEach [o,a] X.env=(false,eval o X.env)::starEach [a] X.env:=by rfl) (he2:starEach [a] X.env=(false,eval a X.env)::starEach [] X.env:=by rfl) (hpl:(backTo pos (starEach [a] X.env)).any (·.1)=false:=by rfl) :
  P3 K X (.Call (.Name x p) [o,a] [] pos) (rR (sp3 K 2 S) [] E0 (ip (dO i) (ip te lA))) (xa i S e3):=
 ⟨Av F hr hg hm hk hb .nil uM (bO ho.pe (bO ha.pe el he2) he) hdb he hpl,Bu ha.rf⟩
end
end L3
namespace L3
open PySem L2
section
variable {K:PySem.W.Frag} {B:Bs} {F:Hp} {σ:L2.St} {H:Hp} {Γ:G} {X:Cx}
def signs (z:Str):List D:=z.cps.toList.map fun c=>D.str (sgn c)
def oS (d:D) (k:Str→Prop):Prop:=match d with
 | .str z=>k z
 | _=>False
theorem Dw {d:D} {k:Str→Prop} (h:oS d k):∃ z,d=.str z∧k z:=by
 cases d <;> first | exact h.elim | exact⟨_,rfl,h⟩
def asc (z:Str):Bool:=z.cps.all (· < 128)
def iS3 (a3:TE3) (Γ:G) (Q:List D→G→Prop):Prop:=a3 Γ fun r Γ1=>oS r.d fun z=>asc z=true∧Q (signs z) Γ1
theorem mQ (z:Str):(signs z).length=z.cps.size:=by simp [signs]
theorem JO {z:Str}:ItR K F (Its z) (signs z):=by
 refine⟨fun i H' _ lt=>by rw[mQ] at lt;exact lt,fun i H' _ e=>by rw[mQ] at e;exact Nat.le_of_eq e.symm,fun i H' x H'' d _ hd y=>?_⟩
 obtain⟨e1,c,hc,rfl⟩:=y
 refine .inl ⟨e1,?_⟩
 unfold signs at hd
 rw[List.getElem?_map,Array.getElem?_toList,hc] at hd
 cases hd;rfl
theorem DZ {tg l:Expr} {tl:TE} {l3:TE3} (h:P3 K X l tl l3):P3I K X tg l (KA tl) (iS3 l3):=⟨Ik h.pe,fun B F σ H Γ Q R e q k=>
 h.rf B F σ H Γ _ _ e q fun v H' ⟨F',Γ',r,s,e',rv,q'⟩=>by
  obtain⟨z,hz,ha,q'⟩:=Dw q'
  obtain⟨F2,s2,e2,r2⟩:=e'.frozen rv
  rw[hz] at r2
  exact⟨z,r2,ha,k _ H' F2 Γ' _ (s.trans s2) e2 JO q'⟩⟩
def sd (lo c:Int) (n:Nat):List D:=(List.range n).map fun (k:Nat)=>D.int (lo + (k:Int) * c)
theorem CK {lo c:Int} {n:Nat}:ItR K F (EV lo c n) (sd lo c n):=by
 have hl:(sd lo c n).length=n:=by simp [sd]
 refine⟨fun i H' _ lt=>by rw[hl] at lt;exact lt,fun i H' _ e=>by rw[hl] at e;exact Nat.le_of_eq e.symm,fun i H' x H'' d _ hd y=>?_⟩
 obtain⟨e1,e2⟩:=y
 subst e1 e2
 refine .inl ⟨rfl,?_⟩
 have hi:i < n:=by have:=(List.getElem?_eq_some_iff.mp hd).1;rw[hl] at this;exact this
 have:(sd lo c n)[i]?=some (.int (lo + i * c)):=by unfold sd;rw[List.getElem?_map,List.getElem?_range hi];rfl
 rw[this] at hd;cases hd
 rfl
def Gs (t3:TA3) (Γ:G) (Q:List D→G→Prop):Prop:=t3 Γ fun ds Γ1=>∃ i j:Int,ds=[.int i,.int j,.int (-1)]∧(-1000000≤i∧i≤1000000∧-1000000≤j∧j≤1000000)∧Q (sd i (-1) (i - j).toNat) Γ1
theorem B0 {tg a b c:Expr} {ta:TA} {a3:TA3} {p pos:Pos} (hg:Gl X "range") (hm:X.mg "range"=none) (ha:P3A K X [a,b,c] ta a3) (hs:starEach [a,b,c] X.env=(false,eval a X.env)::starEach [b,c] X.env:=by rfl) (hs2:(backTo pos (starEach [b,c] X.env)).any (·.1)=false:=by rfl) :
  P3I K X tg (.Call (.Name "range" p) [a,b,c] [] pos) (Hj ta) (Gs a3):=⟨Bx hg hm ha.pe hs hs2,fun B F σ H Γ Q R e q k=>
 ha.rf B F σ H Γ _ _ e q fun vs H' ⟨F',Γ',ds,s,e',rv,i,j,h1,h2,q'⟩=>by
  subst h1
  obtain⟨v,ws,rfl,r1,w,ws',rfl,r2,u,ws'',rfl,r3,r4⟩:=rv
  cases r1;cases r2;cases r3;cases r4
  exact⟨i,j,rfl,h2,k _ H' F' Γ' _ s e' CK q'⟩⟩
def Gr (t3:TA3) (Γ:G) (Q:List D→G→Prop):Prop:=t3 Γ fun ds Γ1=>∃ j:Int,ds=[.int j]∧(0≤j∧j < 2 ^ 62)∧Q (sd (j - 1) (-1) j.toNat) Γ1
theorem Jf {tg a:Expr} {ta:TA} {a3:TA3} {p p' pos pos':Pos} (hg':Gl X "reversed") (hm':X.mg "reversed"=none) (hg:Gl X "range") (hm:X.mg "range"=none) (ha:P3A K X [a] ta a3) (hs:starEach [a] X.env=[(false,eval a X.env)]:=by rfl)
  (hs':starEach [.Call (.Name "range" p) [a] [] pos] X.env=[(false,eval (.Call (.Name "range" p) [a] [] pos) X.env)]:=by rfl) :
  P3I K X tg (.Call (.Name "reversed" p') [.Call (.Name "range" p) [a] [] pos] [] pos') (KC ta) (Gr a3):=⟨Il hg' hm' hg hm ha.pe hs hs',fun B F σ H Γ Q R e q k=>
 ha.rf B F σ H Γ _ _ e q fun vs H' ⟨F',Γ',ds,s,e',rv,j,h1,⟨h2,h3⟩,q'⟩=>by
  subst h1
  obtain⟨v,ws,rfl,r1,r2⟩:=rv
  cases r1;cases r2
  exact⟨j,rfl,h2,h3,k _ H' F' Γ' _ s e' CK q'⟩⟩
def Gq (t3:TA3) (Γ:G) (Q:List D→G→Prop):Prop:=t3 Γ fun ds Γ1=>∃ z ys,ds=[.str z,.tup ys]∧asc z=true∧z.cps.size≤ys.length∧Q (ir (signs z) ys) Γ1
theorem KD {a b:Expr} {ta:TA} {a3:TA3} {es:List Expr} {kt:Nat} {tp p pos:Pos} (hK:X.K=K) (hg:Gl X "zip") (hm:X.mg "zip"=none) (ha:P3A K X [a,b] ta a3) (hs:starEach [a,b] X.env=[(false,eval a X.env),(false,eval b X.env)]:=by rfl) (hs2:starEach [b] X.env=[(false,eval b X.env)]:=by rfl) :
  P3I K X (.Tuple es kt tp) (.Call (.Name "zip" p) [a,b] [] pos) (iZs K ta) (Gq a3):=⟨by subst hK;exact Ka hg hm ha.pe hs hs2,fun B F σ H Γ Q R e q k=>
 ha.rf B F σ H Γ _ _ e q fun vs H' ⟨F',Γ',ds,s,e',rv,z,ys,h1,has,hle,q'⟩=>by
  subst h1
  obtain⟨v,ws,rfl,r1,w,ws',rfl,⟨p2,vs2,rfl,g2,r2⟩,r3⟩:=rv
  cases r3
  cases r1
  have sq:∀ {H'':Hp},aL F' H''→SqT K H'' p2 vs2:=fun sm=>.inl (.inl (sm _ _ g2))
  have zl:(ir (signs z) ys).length=z.cps.size:=by rw[rM,mQ];omega
  refine⟨z,p2,vs2,rfl,has,sq e'.sub,k _ H' F' Γ' _ s e' ⟨fun i H'' sm lt=>?_,fun i H'' sm ei=>?_,fun i H'' x H3 d sm hd y=>?_⟩ q'⟩
  ·rw[zl] at lt
   obtain⟨x,y,hx,hy,_⟩:=jK (List.getElem?_eq_getElem (show i < (ir (signs z) ys).length by rw[zl];exact lt))
   obtain⟨w,hw,_⟩:=r2.get hy
   exact⟨vs2,w,sq sm,lt,hw⟩
  ·rw[zl] at ei;exact Nat.le_of_eq ei.symm
  ·obtain⟨t,y1,c,ht,a2,b1,rfl,rfl⟩:=y
   obtain⟨dx,dy,hx,hy,rfl⟩:=jK hd
   obtain⟨w,hw,rw'⟩:=r2.get hy
   have b2:=a2 vs2 (sq sm)
   rw[b2] at hw;cases hw
   unfold signs at hx
   rw[List.getElem?_map,Array.getElem?_toList,b1] at hx
   cases hx
   exact .inr ⟨t,_,[D.str (sgn c),dy],ht,rfl,rfl,⟨_,_,rfl,(rfl:V.str (sgn c)=V.str (sgn c)),_,_,rfl,rw',rfl⟩,rfl⟩⟩
def tgP (i j k:Nat) (d:D) (Γ:G) (Q:G→Prop):Prop:=∃ x y z,d=.tup [x,.tup [y,z]]∧dW Γ i∧dW (Γ.set i (some (.fz x))) j∧dW ((Γ.set i (some (.fz x))).set j (some (.fz y))) k∧Q (((Γ.set i (some (.fz x))).set j (some (.fz y))).set k (some (.fz z)))
theorem Gx {e1 e2 e3:Expr} {kt kt':Nat} {pos pos':Pos} {i j k:Nat} (hK:X.K=K) (hc:X.calm=true) (h1:PG X e1 (nE i)) (h2:PGs X [e2,e3] (kg [j,k]))
  (hn:(assignEach [e2,e3] X.env).length=2:=by rfl) (hst:(assignEach [e2,e3] X.env).findIdx? (·.1)=none:=by rfl) (hn':(assignEach [e1,.Tuple [e2,e3] kt' pos'] X.env).length=2:=by rfl) (hst':(assignEach [e1,.Tuple [e2,e3] kt' pos'] X.env).findIdx? (·.1)=none:=by rfl)
  (ha:(assignEach [e1,.Tuple [e2,e3] kt' pos'] X.env).map (·.2)=assign e1 X.env::(assignEach [.Tuple [e2,e3] kt' pos'] X.env).map (·.2):=by rfl) (hb:(assignEach [.Tuple [e2,e3] kt' pos'] X.env).map (·.2)=assign (.Tuple [e2,e3] kt' pos') X.env::(assignEach [] X.env).map (·.2):=by rfl) :
  P3G K X (.Tuple [e1,.Tuple [e2,e3] kt' pos'] kt pos) (B4 K 2 (ym (nE i) (ym (B4 K 2 (kg [j,k])) Gw))) (tgP i j k):=⟨by subst hK;exact vT hc (av h1 (av (vT hc h2 hn hst) b_ hb) ha) hn' hst',fun B F σ H Γ v d Q QQ e r q kk=>by
 obtain⟨x,y,z,rfl,f1,f2,f3,q⟩:=q
 obtain⟨p,vs,rfl,h4,v1,ws1,rfl,r1,v2,ws2,rfl,⟨p2,vs2,rfl,h6,r3⟩,r4⟩:=r
 cases r4
 have e1:=e.set (r:=.fz x) f1 r1
 refine⟨p,_,rfl,.inl (.inl (e.sub _ _ h4)),rfl,_,_,rfl,?_⟩
 show ym (B4 K 2 (kg [j,k])) Gw _ _ _ _
 refine⟨_,_,rfl,p2,_,rfl,.inl (.inl (e.sub _ _ h6)),by rw[r3.length];rfl,?_⟩
 exact n3 (is:=[j,k]) (ds:=[y,z]) e1 r3 rfl ⟨f2,f3,trivial⟩ fun σ' e'=>⟨rfl,kk σ' _ e' q⟩⟩
end
end L3
namespace L3
open PySem L2
section
variable {K:PySem.W.Frag} {B:Bs} {F:Hp} {σ:L2.St} {H:Hp} {Γ:G} {X:Cx} {a b o e f:Expr} {ta tb te tf to:TE} {a3 b3:TB3} {e3 f3:TE3} {pos apos cpos:Pos}
def nA (x y:D) (Γ:G) (Q:RV→G→Prop):Prop:=match x,y with
 | .str z,.int n=>(n=0∨n=1)∧z.length≤sizeLine∧Q (.fz (.str (if n=0 then Str.empty else z))) Γ
 | _,_=>False
theorem Ga:kU K CV nA:=by
 intro B F σ H Γ x y dx dy Q QQ e rx ry q k
 unfold nA at q
 split at q
 ·obtain⟨h1,h2,q⟩:=q
  cases rx;cases ry
  exact⟨_,_,rfl,rfl,h1,h2,k _ _ (sj e q)⟩
 ·exact q.elim
theorem vX (ha:P3B K X a ta a3) (hb:P3B K X b tb b3):P3 K X (.BinOp a .Mult b pos) (tOp CV ta tb) (oE nA a3 b3):=⟨oJ FW ha.pe hb.pe,iJ Ga ha.rf hb.rf⟩
def vj (x y:D) (Γ:G) (Q:RV→G→Prop):Prop:=match x,y with
 | .tup xs,.tup ys=>(xs≠[]∧ys≠[]∧xs.length + ys.length≤sizeLine)∧Q (.fz (.tup (xs++ys))) Γ
 | _,_=>False
theorem aF.ne_nil {xs:List D} {vs:List V} (r:aF K F xs vs) (h:xs≠[]):vs≠[]:=fun z=>by
 subst z
 have:=r.length
 cases xs with
 | nil=>exact h rfl
 | cons x xs=>cases this
theorem GX:kU K (CZ K) vj:=by
 intro B F σ H Γ x y dx dy Q QQ e rx ry q k
 unfold vj at q
 split at q
 ·obtain⟨⟨h1,h2,h3⟩,q⟩:=q
  obtain⟨p1,v1,rfl,g1,r1⟩:=rx
  obtain⟨p2,v2,rfl,g2,r2⟩:=ry
  refine⟨p1,p2,v1,v2,rfl,rfl,.inl (.inl (e.sub _ _ g1)),.inl (.inl (e.sub _ _ g2)),r1.ne_nil h1,by rw[r1.length,r2.length];exact h3,fun z=>absurd z (r2.ne_nil h2),fun _ p hp=>?_⟩
  exact k _ _ (rF e hp (r1.append r2) q)
 ·exact q.elim
theorem FR (hK:X.K=K) (ha:P3B K X a ta a3) (hb:P3B K X b tb b3):P3 K X (.BinOp a .Add b pos) (tOp (CZ K) ta tb) (oE vj a3 b3):=⟨by subst hK;exact oJ FY ha.pe hb.pe,iJ GX ha.rf hb.rf⟩
def oSo (d:Option D) (k:Str→Prop):Prop:=match d with
 | some (.str z)=>k z
 | _=>False
theorem Dv {d:Option D} {k:Str→Prop} (h:oSo d k):∃ z,d=some (.str z)∧k z:=by
 cases d with
 | none=>exact h.elim
 | some d=>cases d <;> first | exact h.elim | exact⟨_,rfl,h⟩
def JP (a3:TB3) (l3 h3:TO3) (Γ:G) (Q:RV→G→Prop):Prop:=a3 Γ fun x Γ1=>l3 Γ1 fun lo Γ2=>h3 Γ2 fun hi Γ3=>oSo (x.at Γ3) fun z=>z.length≤sizeLine∧Q (.fz (.str (Txt.slice z lo hi))) Γ3
theorem uN {lo hi:Option Expr} {tl th:TO} {l3 h3:TO3} {p2:Pos} (ha:P3B K X a ta a3) (hl:P3O K X lo tl l3) (hh:P3O K X hi th h3):P3 K X (.Subscript a (.Slice lo hi none p2) pos) (tSl JY ta tl th) (JP a3 l3 h3):=
 ⟨so HM ha.pe hl.pe hh.pe,fun B F σ H Γ Q QQ e q k=>ha.rf B F σ H Γ _ _ e q fun x H1 ⟨F1,Γ1,bo,s1,e1,r1,q1⟩=>hl.rf B F1 σ H1 Γ1 _ _ e1 q1 fun l H2 ⟨F2,Γ2,s2,e2,q2⟩=>hh.rf B F2 σ H2 Γ2 _ _ e2 q2 fun u H3 ⟨F3,Γ3,s3,e3,q3⟩=>by
  obtain⟨z,hz,hl,q3⟩:=Dv q3
  have rx:=e3.bo ((r1.mono s2).mono s3) hz
  cases rx
  exact⟨z,rfl,hl,k _ _ (Po.mono (s1.trans (s2.trans s3)) (sj e3 q3))⟩⟩
def Jq (z y:Str):Nat:=(Builtin.Str.occurrences z y 0 z.length (z.length + 1)).length
def KZ (o3:TE3) (e3:TE3) (Γ:G) (Q:RV→G→Prop):Prop:=o3 Γ fun x Γ1=>oS x.d fun z=>e3 Γ1 fun r Γ2=>oS r.d fun y=>Q (.fz (.int (Jq z y))) Γ2
theorem Dk {o3:TE3} (hK:X.K=K) (ho:P3 K X o to o3) (he:P3 K X e te e3) (hbase:attributeBase o "count" X.env (eval o X.env)=eval o X.env:=by rfl)
  (hfew:((backTo cpos (starEach [e] X.env)).all (fun x=>!x.1) && (backToKw cpos (keywordEach [] X.env)).all (fun x=>x.1.isSome)
   && decide ([e].length + ([]:List Keyword).length + (if ([]:List Keyword).isEmpty then 0 else 1) < 30))=true:=by rfl)
  (hline:(apos.endLine == cpos.line)=true:=by rfl) (hs:starEach [e] X.env=(false,eval e X.env)::starEach [] X.env:=by rfl) (hplain:(backTo cpos (starEach [] X.env)).any (·.1)=false:=by rfl) :
  P3 K X (.Call (.Attribute o "count" apos) [e] [] cpos) (tBM K "str" CY to (ip te lA)) (KZ o3 e3):=
 ⟨by subst hK;exact xQ PySem.F.plainAttrs_str PySem.F.slot_str_count PySem.F.type_str_count DE ho.pe (bO he.pe el hs) hbase hfew hline hs hplain,fun B F σ H Γ Q QQ en q k=>by
  refine ho.rf B F σ H Γ _ _ en q fun x H1 ⟨F1,Γ1,r1,s1,e1,rv1,q1⟩=>?_
  obtain⟨z,hz,q1⟩:=Dw q1
  obtain⟨F2,s2,e2,rp⟩:=e1.frozen rv1
  rw[hz] at rp
  cases rp
  refine⟨rfl,he.rf B F2 σ H1 Γ1 _ _ e2 q1 fun v H' ⟨F3,Γ3,r,s3,e3,rv,q3⟩=>?_⟩
  obtain⟨y,hy,q3⟩:=Dw q3
  obtain⟨F4,s4,e4,rp⟩:=e3.frozen rv
  rw[hy] at rp
  cases rp
  exact⟨z,y,rfl,rfl,k _ _ (Po.mono (s1.trans (s2.trans (s3.trans s4))) (iK e4 q3))⟩⟩
def dS:D→Bool
 | .str _=>true
 | _=>false
theorem Hy (T:TyS X.K):B3 K X (.builtin "isinstance") (fun xs H Q=>∃ x,xs=[x,.ty "str"]∧Kn H x∧Q (.bl (isS x)) H) (is3 "str" dS):=EH (g:=fun _ v=>isS v) (Ez T) fun s h hk=>by
 rename_i F H d v
 cases d <;> first
  | (cases h;rfl)
  | (cases hk;done)
  | (obtain⟨p,vs,rfl,_⟩:=h;rfl)
  | (obtain⟨p,rfl,_⟩:=h;rfl)
  | (obtain⟨p,dx,gs,rfl,_⟩:=h;rfl)
def Fw (i:Nat) (Γ:G) (Q:RV→G→Prop):Prop:=mL (ck Γ i) (fun xs=>m1 (xs[xs.length - 1]?) (fun d=>Q (.fz d) (putD Γ i (.lst xs.dropLast))) ⟨⟩) ⟨⟩
theorem DK {o:Option (List D)} {k:List D→Prop} {t:Tag k}:mL o k t↔∃ d,o=some d∧k d:=by
 cases o with
 | none=>exact⟨fun h=>h.elim,fun ⟨_,h,_⟩=>by cases h⟩
 | some d=>exact⟨fun h=>⟨d,rfl,h⟩,fun ⟨_,h,q⟩=>by cases h;exact q⟩
theorem aF.dropLast {xs:List D} {vs:List V} (r:aF K F xs vs):aF K F xs.dropLast vs.dropLast:=by
 rw[List.dropLast_eq_take,List.dropLast_eq_take,← r.length];exact r.take _
theorem Di (i:Nat) {x:Str} {px:Pos} (hK:X.K=K) (hx:P3B K X (.Name x px) (dO i) (bor i)) (hbase:attributeBase (.Name x px) "pop" X.env (eval (.Name x px) X.env)=eval (.Name x px) X.env:=by rfl) (hline:(apos.endLine == cpos.line)=true:=by rfl) :
  P3 K X (.Call (.Attribute (.Name x px) "pop" apos) [] [] cpos) (Bm K "list" J1 (dO i)) (Fw i):=
 ⟨by subst hK;exact zc PySem.F.plainAttrs_list PySem.F.slot_list_pop PySem.F.type_list_pop IJ hx.pe hbase hline,fun B F σ H Γ Q QQ e q k=>by
  obtain⟨xs,hx,q⟩:=DK.mp q
  obtain⟨d,hd,q⟩:=dU.mp q
  obtain⟨p,vs,a0,b0,c0⟩:=e.ck hx
  obtain⟨v,hv,rv⟩:=c0.get hd
  exact⟨_,a0,j6 b0,p,vs,v,rfl,rfl,b0,by rw[c0.length];exact hv,k _ _ ⟨F,_,.fz d,aL.refl F,e.mut hx a0 c0.dropLast,rv,q⟩⟩⟩
def Ar (i:Nat) (Γ:G) (Q:RV→G→Prop):Prop:=mL (ck Γ i) (fun xs=>m1 (xs[0]?) (fun d=>Q (.fz d) (putD Γ i (.lst (xs.eraseIdx 0)))) ⟨⟩) ⟨⟩
theorem FP (i:Nat) {x:Str} {px p0:Pos} {j0:Nat} (hK:X.K=K) (hx:P3B K X (.Name x px) (dO i) (bor i)) (hbase:attributeBase (.Name x px) "pop" X.env (eval (.Name x px) X.env)=eval (.Name x px) X.env:=by rfl)
  (hfew:((backTo cpos (starEach [.Constant (.int 0) j0 p0] X.env)).all (fun x=>!x.1) && (backToKw cpos (keywordEach [] X.env)).all (fun x=>x.1.isSome)
   && decide (([.Constant (.int 0) j0 p0]:List Expr).length + ([]:List Keyword).length + (if ([]:List Keyword).isEmpty then 0 else 1) < 30))=true:=by rfl)
  (hline:(apos.endLine == cpos.line)=true:=by rfl) (hs:starEach [.Constant (.int 0) j0 p0] X.env=(false,eval (.Constant (.int 0) j0 p0) X.env)::starEach [] X.env:=by rfl) (hplain:(backTo cpos (starEach [] X.env)).any (·.1)=false:=by rfl) :
  P3 K X (.Call (.Attribute (.Name x px) "pop" apos) [.Constant (.int 0) j0 p0] [] cpos) (tBM K "list" CU (dO i) (ip (tC (.int 0)) lA)) (Ar i):=
 ⟨by subst hK;exact xQ PySem.F.plainAttrs_list PySem.F.slot_list_pop PySem.F.type_list_pop DD hx.pe (bO gx el hs) hbase hfew hline hs hplain,fun B F σ H Γ Q QQ e q k=>by
  obtain⟨xs,hx,q⟩:=DK.mp q
  obtain⟨d,hd,q⟩:=dU.mp q
  obtain⟨p,vs,a0,b0,c0⟩:=e.ck hx
  obtain⟨v,hv,rv⟩:=c0.get hd
  have h0:0 < vs.length:=(List.getElem?_eq_some_iff.mp hv).1
  have er:aF K F (xs.eraseIdx 0) (vs.eraseIdx 0):=by
   cases xs with
   | nil=>cases hd
   | cons x xs=>obtain⟨v',ws,rfl,_,r3⟩:=c0;exact r3
  exact⟨_,a0,j6 b0,p,vs,0,0,v,rfl,rfl,b0,by decide,by decide,by unfold seqIndex?;simp [h0],hv,k _ _ ⟨F,_,.fz d,aL.refl F,e.mut hx a0 er,rv,q⟩⟩⟩
def Gn (i:Nat) (k3 e3:TE3) (Γ:G) (Q:RV→G→Prop):Prop:=(∃ xs,ck Γ i=some xs)∧k3 Γ fun rk Γ1=>e3 Γ1 fun r Γ2=>mI (some rk.d) (fun k=>mL (ck Γ2 i) (fun xs=>(0≤k∧k≤(xs.length:Int)∧xs.length < sizeLine)∧Q (.fz .non) (putD Γ2 i (.lst (xs.take k.toNat++r.d::xs.drop k.toNat)))) ⟨⟩) ⟨⟩
theorem DL {o:Option D} {k:Int→Prop} {t:Tag k}:mI o k t→∃ d,o=some (.int d)∧k d:=by
 intro h
 cases o with
 | none=>exact h.elim
 | some d=>cases d <;> first | exact h.elim | exact⟨_,rfl,h⟩
theorem uO (i:Nat) {x:Str} {px:Pos} {k3:TE3} {tk:TE} {kx:Expr} (hK:X.K=K) (hx:P3B K X (.Name x px) (dO i) (bor i)) (hk:P3 K X kx tk k3) (he:P3 K X e te e3) (hbase:attributeBase (.Name x px) "insert" X.env (eval (.Name x px) X.env)=eval (.Name x px) X.env:=by rfl)
  (hfew:((backTo cpos (starEach [kx,e] X.env)).all (fun x=>!x.1) && (backToKw cpos (keywordEach [] X.env)).all (fun x=>x.1.isSome)
   && decide ([kx,e].length + ([]:List Keyword).length + (if ([]:List Keyword).isEmpty then 0 else 1) < 30))=true:=by rfl)
  (hline:(apos.endLine == cpos.line)=true:=by rfl) (hs:starEach [kx,e] X.env=(false,eval kx X.env)::starEach [e] X.env:=by rfl) (hs2:starEach [e] X.env=(false,eval e X.env)::starEach [] X.env:=by rfl) (hplain:(backTo cpos (starEach [e] X.env)).any (·.1)=false:=by rfl) :
  P3 K X (.Call (.Attribute (.Name x px) "insert" apos) [kx,e] [] cpos) (tBM K "list" Aq (dO i) (ip tk (ip te lA))) (Gn i k3 e3):=
 ⟨by subst hK;exact xQ PySem.F.plainAttrs_list PySem.F.slot_list_insert PySem.F.type_list_insert BK hx.pe (bO hk.pe (bO he.pe el hs2) hs) hbase hfew hline hs hplain,fun B F σ H Γ Q QQ en q k=>by
  obtain⟨⟨xs0,h0⟩,q⟩:=q
  obtain⟨p,vs0,a0,b0,_⟩:=en.ck h0
  refine⟨_,a0,j6 b0,hk.rf B F σ H Γ _ _ en q fun vk H1 ⟨F1,Γ1,rk,s1,e1,rv1,q1⟩=>?_⟩
  obtain⟨F2,s2,e2,rp1⟩:=e1.frozen rv1
  refine he.rf B F2 σ H1 Γ1 _ _ e2 q1 fun v H' ⟨F3,Γ3,r,s3,e3,rv,q3⟩=>?_
  obtain⟨F4,s4,e4,rp⟩:=e3.frozen rv
  obtain⟨kk,hkk,q3⟩:=DL q3
  have hkk:rk.d=.int kk:=Option.some.inj hkk
  rw[hkk] at rp1
  cases rp1
  obtain⟨xs,hx,⟨g1,g2,g3⟩,q3⟩:=DK.mp q3
  obtain⟨p',vs,a,b,c⟩:=e4.ck hx
  rw[a0] at a;cases a
  refine⟨p,vs,kk,v,rfl,rfl,b,g1,by rw[c.length];exact g2,by rw[c.length];exact g3,k _ _ ⟨F4,_,.fz .non,s1.trans (s2.trans (s3.trans s4)),e4.mut hx a0 ((c.take _).append (show aF K F4 (r.d::xs.drop kk.toNat) (v::vs.drop kk.toNat) from ⟨v,_,rfl,rp,c.drop _⟩)),rfl,q3⟩⟩⟩
end
end L3
namespace L3
open PySem L2
mutual
def dt:D→PyData
 | .non=>.none
 | .bl b=>.bool b
 | .int i=>.int i
 | .str x=>.str x
 | .lst xs=>.list (dtL xs)
 | .tup xs=>.tuple (dtL xs)
 | _=>.none
def dtL:List D→List PyData
 | []=>[]
 | x::xs=>dt x::dtL xs
end
inductive Sh:Nat→Nat→D→Prop where
 | non:Sh 100 1 .non
 | bl (b:Bool):Sh 100 1 (.bl b)
 | int {i:Int} (h:i.natAbs < 10 ^ 60):Sh 100 1 (.int i)
 | str {x:Str} (h:(PyData.shown (.str x)).length≤100):Sh 100 1 (.str x)
 | lst {n k l:Nat} {xs:List D} (h:∀ x∈xs,Sh n k x) (hl:xs.length≤l):Sh (l * (n + 2) + 3) (k + 1) (.lst xs)
 | tup {n k l:Nat} {xs:List D} (h:∀ x∈xs,Sh n k x) (hl:xs.length≤l):Sh (l * (n + 2) + 3) (k + 1) (.tup xs)
 | up {n k n' k':Nat} {d:D} (h:Sh n k d) (h1:n≤n') (h2:k≤k'):Sh n' k' d
structure ShD (n k:Nat) (d:D):Prop where
 sh:(dt d).showable=true
 nd:(dt d).hasDict=false
 dp:(dt d).depth≤k
 ln:(dt d).shown.length≤n
 dt:∀ {K:PySem.W.Frag} {F H:Hp} {v:V},aL F H→Rep K F d v→Dt K H v (dt d)
theorem Gm {i:Int} (h:i.natAbs < 10 ^ 60):(PyData.shown (.int i)).length≤100:=by
 have e:=int_text_length_le10 (k:=60) (by decide) h
 show (Str.ofString (toString i)).length≤100
 rw[ofString_length]
 omega
theorem Jc {i:Int} (h:i.natAbs < 10 ^ 60):PyData.showable (.int i)=true:=by
 show decide (i.natAbs.log2 < 1920)=true
 rw[decide_eq_true_eq]
 by_cases h0:i.natAbs=0
 ·rw[h0];decide
 ·rw[Nat.log2_lt h0]
  exact Nat.lt_of_lt_of_le (show i.natAbs < 2 ^ 200 from Nat.lt_trans h (by decide)) (Nat.pow_le_pow_right (by decide) (by decide))
theorem shL {n k:Nat}:∀ {xs:List D},(∀ x∈xs,ShD n k x)→PyData.showableAll (dtL xs)=true∧PyData.hasDictAll (dtL xs)=false∧PyData.depthAll (dtL xs)≤k∧((PyData.shownAll (dtL xs)).map (·.length)).sum≤xs.length * n∧(PyData.shownAll (dtL xs)).length=xs.length∧
  ∀ {K:PySem.W.Frag} {F H:Hp} {vs:List V},aL F H→aF K F xs vs→gw K H vs (dtL xs)
 | [],_=>⟨rfl,rfl,by simp [dtL,PyData.depthAll],by simp [dtL,PyData.shownAll],rfl,fun _ r=>by cases r;exact .nil⟩
 | x::xs,h=>by
  obtain⟨h1,h2,h3,h4,h5,h6⟩:=shL (xs:=xs) fun y hy=>h y (List.mem_cons_of_mem _ hy)
  have e:=h x List.mem_cons_self
  have e4:=e.ln
  have e3:=e.dp
  refine⟨?_,?_,?_,?_,?_,fun s r=>?_⟩
  ·simp only[dtL,PyData.showableAll,e.sh,h1,Bool.and_self]
  ·simp only[dtL,PyData.hasDictAll,e.nd,h2,Bool.or_self]
  ·simp only[dtL,PyData.depthAll];omega
  ·simp only[dtL,PyData.shownAll,List.map_cons,List.sum_cons,List.length_cons,Nat.add_mul,Nat.one_mul];omega
  ·simp only[dtL,PyData.shownAll,List.length_cons,h5]
  ·obtain⟨v,ws,rfl,r1,r2⟩:=r
   exact .cons (e.dt s r1) (h6 s r2)
theorem Sh.spec {n k:Nat} {d:D} (h:Sh n k d):ShD n k d:=by
 induction h with
 | non=>exact⟨rfl,rfl,by simp [dt,PyData.depth],by decide,fun _ r=>by cases r;exact .non⟩
 | bl b=>exact⟨rfl,rfl,by simp [dt,PyData.depth],by cases b <;> decide,fun _ r=>by cases r;exact .bl b⟩
 | @int i h=>exact⟨Jc h,rfl,by simp [dt,PyData.depth],Gm h,fun _ r=>by cases r;exact .int i⟩
 | @str x h=>exact⟨rfl,rfl,by simp [dt,PyData.depth],h,fun _ r=>by cases r;exact .str x⟩
 | @lst n k l xs h hl ih=>
  obtain⟨h1,h2,h3,h4,h5,h6⟩:=shL ih
  refine⟨by simp only[dt,PyData.showable,h1],by simp only[dt,PyData.hasDict,h2],by simp only[dt,PyData.depth];omega,?_,fun s r=>?_⟩
  ·have e:=listText_len_le (PyData.shownAll (dtL xs))
   have e2:(PyData.shown (dt (.lst xs)))=listText (PyData.shownAll (dtL xs)):=by simp only[dt,PyData.shown]
   rw[e2]
   have e3:xs.length * n≤l * n:=Nat.mul_le_mul_right _ hl
   have e4:l * (n + 2)=l * n + l * 2:=Nat.mul_add ..
   omega
  ·obtain⟨p,vs,rfl,g,r⟩:=r
   exact .lst (SqL.of (s _ _ g)) (h6 s r)
 | @tup n k l xs h hl ih=>
  obtain⟨h1,h2,h3,h4,h5,h6⟩:=shL ih
  refine⟨by simp only[dt,PyData.showable,h1],by simp only[dt,PyData.hasDict,h2],by simp only[dt,PyData.depth];omega,?_,fun s r=>?_⟩
  ·have e:=tupleText_len_le (PyData.shownAll (dtL xs))
   have e2:(PyData.shown (dt (.tup xs)))=tupleText (PyData.shownAll (dtL xs)):=by simp only[dt,PyData.shown]
   rw[e2]
   have e3:xs.length * n≤l * n:=Nat.mul_le_mul_right _ hl
   have e4:l * (n + 2)=l * n + l * 2:=Nat.mul_add ..
   omega
  ·obtain⟨p,vs,rfl,g,r⟩:=r
   exact .tup (.inl (.inl (s _ _ g))) (h6 s r)
 | up h h1 h2 ih=>exact⟨ih.sh,ih.nd,Nat.le_trans ih.dp h2,Nat.le_trans ih.ln h1,ih.dt⟩
def CF:D→Bool
 | .lst _=>true
 | .tup _=>true
 | _=>false
def shw (d:D):Str:=(dt d).shown
def xE (ds:List D) (Γ:G) (Q:RV→G→Prop):Prop:=match ds with
 | [d]=>(CF d=true∧Sh 10000000 20 d)∧Q (.fz (.str (shw d))) Γ
 | _=>False
section
variable {K:PySem.W.Frag} {B:Bs} {F:Hp} {σ:L2.St} {H:Hp} {Γ:G} {X:Cx}
theorem Sh.dtB {n k:Nat} {d:D} (h:Sh n k d) (hs:CF d=true) {v:V} (s:aL F H) (r:i7 K F H d v):∃ a,v=.ref a∧Dt K H v (dt d):=by
 cases d with
 | lst xs=>
  obtain⟨p,vs,rfl,g,r⟩:=r
  refine⟨p,rfl,?_⟩
  have go:∀ {n k:Nat} {d:D},Sh n k d→∀ xs,d=.lst xs→∀ x∈xs,∃ n k,Sh n k x:=by
   intro n k d h
   induction h with
   | lst h hl ih=>intro xs e x hx;cases e;exact⟨_,_,h x hx⟩
   | up h h1 h2 ih=>exact ih
   | _=>intro xs e;cases e
  have all:∀ {ys:List D} {ws:List V},(∀ x∈ys,∃ n k,Sh n k x)→aF K F ys ws→gw K H ws (dtL ys):=by
   intro ys
   induction ys with
   | nil=>intro ws _ r;cases r;exact .nil
   | cons y ys ih=>
    intro ws hh r
    obtain⟨w,ws',rfl,r1,r2⟩:=r
    obtain⟨n',k',hy⟩:=hh y List.mem_cons_self
    exact .cons (hy.spec.dt s r1) (ih (fun z hz=>hh z (List.mem_cons_of_mem _ hz)) r2)
  exact .lst (SqL.of g) (all (go h xs rfl) r)
 | tup xs=>
  have r':Rep K F (.tup xs) v:=r
  have q:=h.spec.dt s r'
  obtain⟨p,vs,rfl,_⟩:=r'
  exact⟨p,rfl,q⟩
 | _=>cases hs
theorem kJ {k:Nat} (hK:X.K=K) (hr:eg k X.A):B3 K X (.builtin "repr") (fun xs H Q=>∃ a d,xs=[.ref a]∧Dt K H (.ref a) d∧Shw d∧Q (.str d.shown) H) xE:=⟨by subst hK;exact z5 hr,by
 intro B F σ H Γ vs ds Q QQ e r q k
 unfold xE at q
 split at q
 ·obtain⟨⟨hs,hS⟩,q⟩:=q
  obtain⟨v,rfl,r1⟩:=r.one
  obtain⟨a,rfl,hd⟩:=hS.dtB hs e.sub r1
  have sp:=hS.spec
  exact⟨a,_,rfl,hd,⟨sp.sh,sp.nd,sp.dp,by rw[sizeLine_eq];have:=sp.ln;omega⟩,k _ _ (sj e q)⟩
 ·exact q.elim⟩
end
end L3
namespace L3
open PySem L2
section
variable {K:PySem.W.Frag} {B:Bs} {F:Hp} {σ:L2.St} {H:Hp} {Γ:G} {X:Cx} {a o e f:Expr} {ta te tf:TE} {a3:TB3} {e3 f3:TE3} {pos apos cpos:Pos}
def yn (C0:Addr) (f:Str) (x:D) (Γ:G) (Q:RV→G→Prop):Prop:=match x with
 | .ins C ns xs=>C=C0∧m1 ((ns.zip xs).lookup f) (fun d=>Q (.fz d) Γ) ⟨⟩
 | _=>False
theorem fi {f:Str} {C0:Addr} (hK:X.K=K) (ha:P3B K X a ta a3) (hC:Cls K C0) (hn:gq K C0 f) (hb:attributeBase a f X.env (eval a X.env)=eval a X.env:=by rfl) :
  P3 K X (.Attribute a f pos) (JL K ta f) (Cy (yn C0 f) a3):=⟨by subst hK;exact Iq ha.pe hb,CN (r:=fun x H1 Q=>∃ a C dx fs v,x=.ref a∧H1 a=some (.ins C dx fs)∧Cls K C∧gq K C f∧fs.lookup f=some v∧Q v H1) (ta:=ta) (by
 intro B F σ H Γ x dx Q QQ e rx q k
 unfold yn at q
 split at q
 ·obtain⟨rfl,q⟩:=q
  obtain⟨d,hd,q⟩:=dU.mp q
  obtain⟨p,dx,gs,rfl,h1,h2,h3⟩:=rx
  obtain⟨v,hv,r⟩:=aF.lookup h2 h3 hd
  exact⟨p,_,dx,gs,v,rfl,h1,hC,hn,hv,k _ _ (kN e r q)⟩
 ·exact q.elim) ha.rf⟩
def kt (zs:List Str):D:=.ktup (zs.map .str)
structure JA (K:PySem.W.Frag) (mg:Str→Option Value) (x:Str) (p:Addr) (zs:List Str):Prop where
 mg:mg x=some (.ref p)
 sq:∀ F:Hp,SqT K F p (zs.map V.str)
theorem aF.strs:∀ (zs:List Str),aF K F (zs.map D.str) (zs.map V.str)
 | []=>rfl
 | z::zs=>⟨_,_,rfl,rfl,aF.strs zs⟩
theorem jf {x:Str} {zs:List Str} {p:Addr} {pos:Pos} (hg:Gl X x) (hm:JA K X.mg x p zs) (hd:(x == ("__debug__":Str))=false:=by decide):P3 K X (.Name x pos) (tC (.ref p)) (t3C (kt zs)):=
 ⟨Au hg hm.mg rfl hd,uK fun F=>⟨p,_,rfl,hm.sq F,aF.strs zs⟩⟩
def New (H H' F:Hp):Prop:=∀ b o,H b=none→H' b=some o→F b=some o
def Lit (K:PySem.W.Frag) (te:TE) (d:D):Prop:=∀ (σ:L2.St) (H:Hp) (Q:VK),(∀ v H',aL H H'→(∀ F,New H H' F→Rep K F d v)→Q v H')→te σ H Q
def EU (K:PySem.W.Frag) (t:TA) (ds:List D):Prop:=∀ (σ:L2.St) (H:Hp) (Q:List V→Hp→Prop),(∀ vs H',aL H H'→vs.length=ds.length→(∀ F,New H H' F→aF K F ds vs)→Q vs H')→t σ H Q
theorem uT {v:V} {d:D} (h:∀ F,Rep K F d v):Lit K (tC v) d:=fun σ H Q k=>k v H (aL.refl H) fun F _=>h F
theorem lit_neg {i:Int}:Lit K (tUn (rU fun i=>.int (-i)) (tC (.int i))) (.int (-i)):=fun σ H Q k=>⟨i,rfl,k (.int (-i)) H (aL.refl H) fun _ _=>rfl⟩
theorem fW:EU K lA []:=fun σ H Q k=>k [] H (aL.refl H) rfl fun _ _=>rfl
theorem New.left {H H' H'' F:Hp} (s:aL H' H'') (n:New H H'' F):New H H' F:=fun b o h1 h2=>n b o h1 (s _ _ h2)
theorem New.right {H H' H'' F:Hp} (s:aL H H') (n:New H H'' F):New H' H'' F:=fun b o h1 h2=>n b o (s.free h1) h2
theorem cj {te:TE} {t:TA} {d:D} {ds:List D} (h1:Lit K te d) (h2:EU K t ds):EU K (ip te t) (d::ds):=fun σ H Q k=>
 h1 σ H _ fun v H1 s1 r1=>h2 σ H1 _ fun vs H2 s2 l r2=>k (v::vs) H2 (s1.trans s2) (by simp [l]) fun F n=>⟨v,vs,rfl,r1 F (n.left s2),r2 F (n.right s1)⟩
theorem j8 {H:Hp} {l:Addr} {o:HO} (h:H l=none):aL H (upd H l o):=fun b u e=>by rw[au (bE e h)];exact e
theorem mX {t:TA} {ds:List D} (h:EU K t ds) (hl:ds.length≤sizeLine):Lit K (HI t) (.lst ds):=fun σ H Q k=>
 h σ H _ fun vs H1 s1 l r1=>⟨by rw[l];exact hl,fun p hp=>k (.ref p) _ (s1.trans (j8 hp)) fun F n=>⟨p,vs,rfl,n p _ (s1.free hp) aN,r1 F (n.left (j8 hp))⟩⟩
theorem wu {t:TA} {ds:List D} (h:EU K t ds) (hl:ds.length≤sizeLine):Lit K (HG t) (.tup ds):=fun σ H Q k=>
 h σ H _ fun vs H1 s1 l r1=>⟨by rw[l];exact hl,fun p hp=>k (.ref p) _ (s1.trans (j8 hp)) fun F n=>⟨p,vs,rfl,n p _ (s1.free hp) aN,r1 F (n.left (j8 hp))⟩⟩
def Hv (i:Nat) (k1 k2:Str) (d1 d2 d0:D) (Γ:G) (Q:RV→G→Prop):Prop:=oSo (Gat Γ i) fun w=>Q (.fz (if w=k1 then d1 else if w=k2 then d2 else d0)) Γ
theorem Li {k1 k2 w:Str} {v1 v2:V} (h:k1≠k2):ly (kb [] [((Sum.inr k1:Key),v1),(Sum.inr k2,v2)]) (Sum.inr w)=if w=k1 then some v1 else if w=k2 then some v2 else none:=by
 have e1:(Sum.inr k1:Key)≠Sum.inr k2:=fun z=>h (Sum.inr.inj z)
 have e:kb [] [((Sum.inr k1:Key),v1),(Sum.inr k2,v2)]=[(Sum.inr k1,v1),(Sum.inr k2,v2)]:=by
  simp [kb,putK,e1,h]
 rw[e]
 by_cases q1:w=k1
 ·subst q1;simp [ly]
 ·by_cases q2:w=k2
  ·subst q2;simp [ly,h,q1]
  ·have z1:¬ k1=w:=fun z=>q1 z.symm
   have z2:¬ k2=w:=fun z=>q2 z.symm
   simp [ly,z1,z2,q1,q2]
theorem FQ {k1 k2:Str} {d1 d2 d0:D} {x v1 v2 v0:Expr} {t1 t2 t0:TE} {j1 j2 i:Nat} {p1 p2 dp:Pos} {k:Nat} (hr:eg k X.A) (hx:P3B K X x (dO i) (bor i)) (hne:k1≠k2) (h1:PE X v1 t1) (h2:PE X v2 t2) (h0:PE X v0 t0) (l1:Lit K t1 d1) (l2:Lit K t2 d2) (l0:Lit K t0 d0)
  (m:M2 X (.Dict [some (.Constant (.str k1) j1 p1),some (.Constant (.str k2) j2 p2)] [v1,v2] dp) "get" apos x v0 cpos:=by exact⟨rfl,rfl,rfl,rfl⟩) :
  P3 K X (.Call (.Attribute (.Dict [some (.Constant (.str k1) j1 p1),some (.Constant (.str k2) j2 p2)] [v1,v2] dp) "get" apos) [x,v0] [] cpos) (Cw (G6 [(tC (.str k1),t1),(tC (.str k2),t2)]) (dO i) t0) (Hv i k1 k2 d1 d2 d0):=
 ⟨Dc (by have:=hr.un;omega) (FE (xO za h1 (xO za h2 Fv)) rfl rfl (by simp) (by simp)) hx.pe h0 m,fun B F σ H Γ Q QQ e q k=>by
  obtain⟨w,hw,q⟩:=Dv q
  obtain⟨vw,hv,rw'⟩:=e.get hw
  cases rw'
  intro p hp
  show t1 σ (upd H p (.dK [])) _
  refine l1 σ _ _ fun u1 H2 s1 r1=>?_
  show t2 σ H2 _
  refine l2 σ _ _ fun u2 H3 s2 r2=>?_
  have hp3:H3 p=some (.dK []):=s2 _ _ (s1 _ _ aN)
  refine⟨hp3,[(Sum.inr k1,u1),(Sum.inr k2,u2)],rfl,by simp,p,rfl,.inl ⟨_,.inl aN⟩,_,hv,?_⟩
  refine l0 σ _ _ fun u0 H5 s5 r0=>?_
  have s3:aL H (upd H3 p (.dK (kb [] [((Sum.inr k1:Key),u1),(Sum.inr k2,u2)]))):=fun b o hb=>by
   rw[au (bE hb hp)]
   exact s2 _ _ (s1 _ _ (by rw[au (bE hb hp)];exact hb))
  obtain⟨F',sF,e',_,hn⟩:=e.grow (s3.trans s5) p hp
  have g5:∀ {b:Addr} {o:HO},b≠p→H b=none→H5 b=some o→F' b=some o:=fun {b o} z a c=>hn b o z a c
  have nb:∀ {b:Addr},(upd H p (.dK [])) b=none→b≠p∧H b=none:=fun {b} z=>by
   have z1:b≠p:=fun y=>by subst y;rw[aN] at z;cases z
   rw[au z1] at z;exact⟨z1,z⟩
  have up5:∀ {b:Addr} {o:HO},b≠p→H3 b=some o→H5 b=some o:=fun {b o} z h=>s5 _ _ (by rw[au z];exact h)
  have R1:Rep K F' d1 u1:=r1 F' fun b o z h=>by
   obtain⟨z1,z2⟩:=nb z
   exact g5 z1 z2 (up5 z1 (s2 _ _ h))
  have R2:Rep K F' d2 u2:=r2 F' fun b o z h=>by
   obtain⟨z1,z2⟩:=nb (s1.free z)
   exact g5 z1 z2 (up5 z1 h)
  have R0:Rep K F' d0 u0:=r0 F' fun b o z h=>by
   have z1:b≠p:=fun y=>by subst y;rw[aN] at z;cases z
   exact g5 z1 (s3.free z) h
  refine⟨_,.inl ⟨_,Sum.inr w,.inl (s5 _ _ aN),rfl,rfl⟩,?_⟩
  rw[Li hne]
  refine k _ _ ⟨F',Γ,.fz (if w=k1 then d1 else if w=k2 then d2 else d0),sF,e',?_,q⟩
  show Rep K F' _ _
  by_cases q1:w=k1
  ·rw[if_pos q1,if_pos q1];exact R1
  ·rw[if_neg q1,if_neg q1]
   by_cases q2:w=k2
   ·rw[if_pos q2,if_pos q2];exact R2
   ·rw[if_neg q2,if_neg q2];exact R0⟩
end
end L3
namespace L3
open PySem L2
section
variable {K:PySem.W.Frag} {B:Bs} {F:Hp} {σ:L2.St} {H:Hp} {Γ:G} {X:Cx} {e:Expr} {te:TE} {e3:TE3} {pos:Pos}
def GK (i:Nat) (e3:TE3) (D:E3) (Γ:G):Prop:=mI (Gat Γ i) (fun m=>e3 Γ fun r Γ1=>mI (some r.d) (fun n=>dW Γ1 i∧D.nx (Γ1.set i (some (.fz (.int (m + n)))))) ⟨⟩) ⟨⟩
theorem HS {i:Nat} {x:Str} {pos':Pos} (hN:X.N.Nodup) (hi:X.N[i]?=some x) (hx:Loc X.env.scope x) (he:P3 K X e te e3) (hf:X.fn x=true∨X.env.scope.names.lookup x=some .local:=by first | exact .inl rfl | exact .inr rfl | assumption) :
  P3S K X (.AugAssign (.Name x pos') .Add e pos) (JM i te L2.Bv) (GK i e3):=⟨Ih hN hi hx he.pe Je hf,fun B F σ H Γ D D3 en k q=>by
 obtain⟨m,hm,q⟩:=DL q
 obtain⟨v,hv,rv⟩:=en.get hm
 cases rv
 refine⟨_,hv,he.rf B F σ H Γ _ _ en q fun u H1 ⟨F1,Γ1,r,s1,e1,rv,q1⟩=>?_⟩
 obtain⟨n,hn,hfr,q1⟩:=DL q1
 have hn:r.d=.int n:=Option.some.inj hn
 obtain⟨F2,s2,e2,rp⟩:=e1.frozen rv
 rw[hn] at rp
 cases rp
 exact⟨m,n,rfl,rfl,k.nx F2 _ _ _ (s1.trans s2) (e2.set (r:=.fz (.int (m + n))) hfr rfl) q1⟩⟩
end
end L3
namespace L3
open PySem L2
def oIt (o:Option (Addr×List Str×List D)) (k:Addr→List Str→List D→Prop) (_:Tag k):Prop:=oI o k
theorem sG {C:Addr} {ns:List Str} {xs:List D} {k:Addr→List Str→List D→Prop} {t:Tag k}:oIt (some (C,ns,xs)) k t=k C ns xs:=rfl
def oSt (o:D) (k:Str→Prop) (_:Tag k):Prop:=oS o k
theorem wa {z:Str} {k:Str→Prop} {t:Tag k}:oSt (.str z) k t=k z:=rfl
def IH (o:Option D) (k:Str→Prop) (_:Tag k):Prop:=oSo o k
theorem sE {z:Str} {k:Str→Prop} {t:Tag k}:IH (some (.str z)) k t=k z:=rfl
def Ee (o:G) (k:D→Prop) (_:Tag k):Prop:=KP o k
theorem wJ {d:D} {Γ:G} {k:D→Prop} {t:Tag k}:Ee (some (.ln d)::Γ) k t=k d:=rfl
def Jj (o:RV) (k:D→Prop) (_:Tag k):Prop:=frR o k
theorem zR {d:D} {k:D→Prop} {t:Tag k}:Jj (.fr d) k t=k d:=rfl
section
variable {Γ:G} {Q:RV→G→Prop} {QI:List D→G→Prop} {C C0:Addr} {i n:Nat} {f:Str} {S:S3} {e3:TE3} {a3:TB3} {t3:TA3} {D1:E3} {k1 k2:Str} {d1 d2 d0:D} {l3 h3:TO3}
theorem vB:CC C0 i f e3 D1 Γ=(e3 Γ fun r Γ1=>oIt (ph Γ1 i) (fun C ns xs=>C=C0∧(f∉ns∧ns.length < 1000)∧D1.nx (putD Γ1 i (.ins C (ns++[f]) (xs++[r.d])))) ⟨⟩):=rfl
theorem Gd:AE C n S t3 Γ Q=(t3 Γ fun ds Γ1=>ds.length + 1=n∧hold S (some (.ln (.ins C [] []))::ds.map fun d=>some (.fz d)) (fun r Γa=>r=.fz .non∧Ee Γa (fun d=>Q (.fr d) Γ1) ⟨⟩) ⟨⟩):=rfl
theorem ED:xa i S e3 Γ Q=((∃ d,Gat Γ i=some d)∧e3 Γ fun r Γ1=>Jj r (fun d=>hold S [jY Γ1 (.v i),some (.ln d)] (fun r' Γa=>Q r' (cm [some i,none] Γ1 Γa)) ⟨⟩) ⟨⟩):=rfl
theorem DY:iS3 e3 Γ QI=(e3 Γ fun r Γ1=>oSt r.d (fun z=>asc z=true∧QI (signs z) Γ1) ⟨⟩):=rfl
theorem yU:JP a3 l3 h3 Γ Q=(a3 Γ fun x Γ1=>l3 Γ1 fun lo Γ2=>h3 Γ2 fun hi Γ3=>IH (x.at Γ3) (fun z=>z.length≤sizeLine∧Q (.fz (.str (Txt.slice z lo hi))) Γ3) ⟨⟩):=rfl
theorem zY {o3:TE3}:KZ o3 e3 Γ Q=(o3 Γ fun x Γ1=>oSt x.d (fun z=>e3 Γ1 fun r Γ2=>oSt r.d (fun y=>Q (.fz (.int (Jq z y))) Γ2) ⟨⟩) ⟨⟩):=rfl
theorem wX:Hv i k1 k2 d1 d2 d0 Γ Q=IH (Gat Γ i) (fun w=>Q (.fz (if w=k1 then d1 else if w=k2 then d2 else d0)) Γ) ⟨⟩:=rfl
end
end L3
namespace L3
open PySem L2
def bT (c:Bool) (p q:Prop) (_:Tag p) (_:Tag q):Prop:=match c with
 | true=>p
 | false=>q
theorem Cd {p q:Prop} {s:Tag p} {t:Tag q}:bT true p q s t=p:=rfl
theorem Ce {p q:Prop} {s:Tag p} {t:Tag q}:bT false p q s t=q:=rfl
theorem K6 {c:Bool} {p q:Prop} {s:Tag p} {t:Tag q} (h1:c=true→p) (h2:c=false→q):bT c p q s t:=by
 cases c with
 | true=>exact h1 rfl
 | false=>exact h2 rfl
section
variable {Γ:G} {Q:RV→G→Prop} {QB:Bo→G→Prop} {QT:Bool→G→Prop} {QA:List D→G→Prop} {QL:List Bo→G→Prop} {QO:Option Int→G→Prop} {QG:G→Prop} {i j:Nat} {is:List Nat} {D1:E3} {t u:TS3} {e3 f3:TE3} {a3 b3 c3:TB3} {A3 B3:TT3} {t3:TA3} {tb:j4} {d:D} {l3 h3 s3:TO3} {bb:nu} {ys:List D}
theorem u6:HP t u D1 Γ=t { D1 with nx:=u D1 } Γ:=rfl
theorem p6:DB D1 Γ=D1.nx Γ:=rfl
theorem u5:CD i e3 D1 Γ=(e3 Γ fun r Γ1=>dW Γ1 i∧D1.nx (Γ1.set i (some r.sl))):=rfl
theorem D8:HV e3 D1 Γ=e3 Γ D1.rt:=rfl
theorem Eb:Ep e3 D1 Γ=(e3 Γ fun _ Γ1=>D1.nx Γ1):=rfl
theorem L8:Gp A3 t u D1 Γ=(A3 Γ fun c Γ1=>bT c (t D1 Γ1) (u D1 Γ1) ⟨⟩ ⟨⟩):=by
 show (A3 Γ fun c Γ1=>match c with | true=>t D1 Γ1 | false=>u D1 Γ1)=_
 congr 1
theorem u4:tst e3 Γ QT=(e3 Γ fun x Γ1=>match x.d with | .bl k=>QT k Γ1 | _=>False):=rfl
theorem sT:bor i Γ QB=((∃ d,Gat Γ i=some d)∧QB (.v i) Γ):=rfl
theorem sU:bof e3 Γ QB=(e3 Γ fun x Γ1=>QB (.d x.d) Γ1):=rfl
theorem mY:Ew a3 tb Γ QL=(a3 Γ fun x Γ1=>tb Γ1 fun xs Γ2=>QL (x::xs) Γ2):=rfl
theorem p5:DA Γ QL=QL [] Γ:=rfl
theorem zL:mz e3 t3 Γ QA=(e3 Γ fun x Γ1=>t3 Γ1 fun xs Γ2=>QA (x.d::xs) Γ2):=rfl
theorem D_:BH Γ QA=QA [] Γ:=rfl
theorem h_c:t3C d Γ Q=Q (.fz d) Γ:=rfl
theorem Hr:GV A3 B3 Γ QT=(A3 Γ fun c Γ1=>bT c (B3 Γ1 QT) (QT false Γ1) ⟨⟩ ⟨⟩):=by
 show (A3 Γ fun c Γ1=>match c with | true=>B3 Γ1 QT | false=>QT false Γ1)=_
 congr 1
theorem KI:or3 A3 B3 Γ QT=(A3 Γ fun c Γ1=>bT c (QT true Γ1) (B3 Γ1 QT) ⟨⟩ ⟨⟩):=by
 show (A3 Γ fun c Γ1=>match c with | true=>QT true Γ1 | false=>B3 Γ1 QT)=_
 congr 1
theorem Hn:F_ A3 Γ QT=(A3 Γ fun c Γ1=>QT (!c) Γ1):=rfl
theorem KJ:if3 A3 e3 f3 Γ Q=(A3 Γ fun c Γ1=>bT c (e3 Γ1 Q) (f3 Γ1 Q) ⟨⟩ ⟨⟩):=by
 show (A3 Γ fun c Γ1=>match c with | true=>e3 Γ1 Q | false=>f3 Γ1 Q)=_
 congr 1
theorem Ea:IL t3 Γ Q=(t3 Γ fun xs Γ1=>xs.length≤sizeLine∧Q (.fr (.lst xs)) Γ1):=rfl
theorem D5:Bj t3 Γ Q=(t3 Γ fun xs Γ1=>xs.length≤sizeLine∧Q (.fz (.tup xs)) Γ1):=rfl
theorem Hq:GU i e3 Γ Q=((∃ xs,ck Γ i=some xs)∧e3 Γ fun r Γ1=>∃ xs,ck Γ1 i=some xs∧xs.length < sizeLine∧Q (.fz .non) (putD Γ1 i (.lst (xs++[r.d])))):=rfl
theorem D7:CB is e3 D1 Γ=(e3 Γ fun r Γ1=>∃ ds Γ',r.d=.tup ds∧gives Γ1 is ds=some Γ'∧frees Γ1 is ds∧D1.nx Γ'):=rfl
theorem D6:CA a3 Γ QO=(a3 Γ fun x Γ1=>∃ i,x.at Γ1=some (.int i)∧QO (some i) Γ1):=rfl
theorem D9:Dz Γ QO=QO none Γ:=rfl
abbrev hI (Iv:Nat→G→Prop) (k:Nat) (Γ:G) (_:Tag Iv):Prop:=Iv k Γ
def Hd (xs:List D) (Γ1:G) (g3:TG3) (b3:TS3) (E1:E3) (_:Tag (g3,b3,E1)):Prop:=∃ Iv:Nat→G→Prop,Iv 0 Γ1∧(∀ k d Γ,xs[k]?=some d→Iv k Γ→g3 d Γ fun Γ'=>b3 { E1 with nx:=Iv (k + 1),ct:=Iv (k + 1),bk:=E1.nx } Γ')∧∀ Γ,Iv xs.length Γ→E1.nx Γ
theorem Ho {i3:TI3} {g3:TG3} {b3:TS3} {t1:Tag (i3,g3,b3)} {t2:Tag D1}:Jk i3 g3 b3 D1 Γ t1 t2=(i3 Γ fun xs Γ1=>Hd xs Γ1 g3 b3 D1 ⟨⟩):=rfl
theorem dF {xs:List D} {Γ1:G} {g3:TG3} {b3:TS3} {E1:E3} {t:Tag (g3,b3,E1)} (Iv:Nat→G→Prop) (h0:Iv 0 Γ1) (hs:∀ k d Γ,xs[k]?=some d→Iv k Γ→g3 d Γ fun Γ'=>b3 { E1 with nx:=fun Γ=>hI Iv (k + 1) Γ ⟨⟩,ct:=fun Γ=>hI Iv (k + 1) Γ ⟨⟩,bk:=E1.nx } Γ')
  (he:∀ Γ,Iv xs.length Γ→E1.nx Γ):Hd xs Γ1 g3 b3 E1 t:=⟨Iv,h0,hs,he⟩
abbrev hJ (Iv:Nat→List D→G→Prop) (k:Nat) (ys:List D) (Γ:G) (_:Tag Iv):Prop:=Iv k ys Γ
def Hw (xs:List D) (Γ1:G) (fr:List (Option Nat)) (g3:TG3) (e3:TE3) (Q:RV→G→Prop) (_:Tag (fr,g3,e3,Q)):Prop:=∃ Iv:Nat→List D→G→Prop,Iv 0 [] (fA Γ1 (jb fr))∧
 (∀ k d ys Γc,xs[k]?=some d→ys.length=k→Iv k ys Γc→g3 d Γc fun Γ2=>e3 Γ2 fun r Γ3=>Iv (k + 1) (ys++[r.d]) Γ3)∧∀ ys Γc,ys.length=xs.length→Iv xs.length ys Γc→Q (.fr (.lst ys)) (cm fr Γ1 Γc)
theorem Ec {fr:List (Option Nat)} {i3:TI3} {g3:TG3} {t1:Tag (fr,i3,g3,e3)} {t2:Tag Q}:AY fr i3 g3 e3 Γ Q t1 t2=(i3 Γ fun xs Γ1=>xs.length < sizeLine∧Hw xs Γ1 fr g3 e3 Q ⟨⟩):=rfl
theorem ff {xs:List D} {Γ1:G} {fr:List (Option Nat)} {g3:TG3} {e3:TE3} {Q:RV→G→Prop} {t:Tag (fr,g3,e3,Q)} (Iv:Nat→List D→G→Prop) (h0:Iv 0 [] (fA Γ1 (jb fr)))
  (hs:∀ k d ys Γc,xs[k]?=some d→ys.length=k→Iv k ys Γc→g3 d Γc fun Γ2=>e3 Γ2 fun r Γ3=>hJ Iv (k + 1) (ys++[r.d]) Γ3 ⟨⟩) (he:∀ ys Γc,ys.length=xs.length→Iv xs.length ys Γc→Q (.fr (.lst ys)) (cm fr Γ1 Γc)):Hw xs Γ1 fr g3 e3 Q t:=⟨Iv,h0,hs,he⟩
def Ex (xs:List D) (Γ1:G) (fr:List (Option Nat)) (g3:TG3) (b3:nu) (Q:RV→G→Prop) (_:Tag (fr,g3,b3,Q)):Prop:=AI xs g3 b3 [] (fA Γ1 (jb fr)) fun ys Γc=>ys.length < sizeLine∧Q (.fr (.lst ys)) (cm fr Γ1 Γc)
theorem AS {fr:List (Option Nat)} {i3:TI3} {g3:TG3} {t1:Tag (fr,i3,g3,bb)} {t2:Tag Q}:wZ fr i3 g3 bb Γ Q t1 t2=(i3 Γ fun xs Γ1=>Ex xs Γ1 fr g3 bb Q ⟨⟩):=rfl
theorem B6 {xs:List D} {Γ1:G} {fr:List (Option Nat)} {g3:TG3} {b3:nu} {Q:RV→G→Prop} {t:Tag (fr,g3,b3,Q)} (Iv:Nat→List D→G→Prop) (h0:Iv 0 [] (fA Γ1 (jb fr)))
  (hs:∀ k d ys Γ,xs[k]?=some d→Iv k ys Γ→g3 d Γ fun Γ'=>b3 ys Γ' fun ys Γ=>hJ Iv (k + 1) ys Γ ⟨⟩) (he:∀ ys Γc,Iv xs.length ys Γc→ys.length < sizeLine∧Q (.fr (.lst ys)) (cm fr Γ1 Γc)):Ex xs Γ1 fr g3 b3 Q t:=⟨Iv,h0,hs,he⟩
theorem Ej {n:Nat} {xs:List D}:eqN (n + 1) (.lst xs) (.lst [])=some xs.isEmpty:=by cases n <;> cases xs <;> rfl
theorem tu {n:Nat} {a b c:Int}:eqN (n + 1) (.lst [.int a,.int b,.int c]) (.lst [.int a,.int b,.int c])=some true:=by
 have:=jN (n:=n) [a,b,c] [a,b,c]
 rw[decide_eq_true rfl] at this
 exact this
theorem i28 {a b:Option D}:(if 2=8 then a else b)=b:=if_neg (by decide)
def D0 (S:S3) (A:G) (L:List (Option Nat)) (Γ1:G) (Q:RV→G→Prop) (_:Tag Q):Prop:=S A (fun r Γa=>Q r (cm L Γ1 Γa))
def KH (S:S3) (A:G) (Γ1:G) (Q:RV→G→Prop) (_:Tag Q):Prop:=S A (fun r Γa=>r=.fz .non∧Ee Γa (fun d=>Q (.fr d) Γ1) ⟨⟩)
theorem mZ {n:Nat} {S:S3} {t3:j4}:tI n S t3 Γ Q=(t3 Γ fun bs Γ1=>bs.length=n∧(ej bs).Nodup∧D0 S (fA Γ1 (bs.map some)) ((bs.map some).map dz) Γ1 Q ⟨⟩):=rfl
theorem DG {C:Addr} {m:Str} {n:Nat} {S:S3} {o3:TB3} {t3:j4}:ji C m n S o3 t3 Γ Q=(o3 Γ fun x Γ1=>(∃ ns xs,x.at Γ1=some (.ins C ns xs)∧m∉ns)∧t3 Γ1 fun bs Γ2=>bs.length + 1=n∧(ej (x::bs)).Nodup∧D0 S (fA Γ2 ((x::bs).map some)) (((x::bs).map some).map dz) Γ2 Q ⟨⟩):=rfl
theorem DJ {C:Addr} {n:Nat} {S:S3} {t3:TA3}:AE C n S t3 Γ Q=(t3 Γ fun ds Γ1=>ds.length + 1=n∧KH S (some (.ln (.ins C [] []))::ds.map fun d=>some (.fz d)) Γ1 Q ⟨⟩):=rfl
theorem A2 {S:S3}:xa i S e3 Γ Q=((∃ d,Gat Γ i=some d)∧e3 Γ fun r Γ1=>Jj r (fun d=>D0 S [jY Γ1 (.v i),some (.ln d)] [some i,none] Γ1 Q ⟨⟩) ⟨⟩):=rfl
def bG (c:Bool) (t u:TS3) (E1:E3) (Γ:G) (_:Tag (t,u,E1)):Prop:=match c with
 | true=>t E1 Γ
 | false=>u E1 Γ
theorem Cf {s:Tag (t,u,D1)}:bG true t u D1 Γ s=t D1 Γ:=rfl
theorem Cg {s:Tag (t,u,D1)}:bG false t u D1 Γ s=u D1 Γ:=rfl
theorem jo {c:Bool} {s:Tag (t,u,D1)} (h1:c=true→t D1 Γ) (h2:c=false→u D1 Γ):bG c t u D1 Γ s:=by
 cases c with
 | true=>exact h1 rfl
 | false=>exact h2 rfl
theorem u7:Gp A3 t u D1 Γ=(A3 Γ fun c Γ1=>bG c t u D1 Γ1 ⟨⟩):=by
 show (A3 Γ fun c Γ1=>match c with | true=>t D1 Γ1 | false=>u D1 Γ1)=_
 congr 1
theorem KL {e:D}:mz (t3C e) t3 Γ QA=(t3 Γ fun xs Γ2=>QA (e::xs) Γ2):=rfl
theorem D4 {d e:D}:Bj (mz (t3C d) (mz (t3C e) BH)) Γ Q=Q (.fz (.tup [d,e])) Γ:=by
 show (2≤sizeLine∧Q (.fz (.tup [d,e])) Γ)=_
 exact propext ⟨fun h=>h.2,fun h=>⟨by rw[sizeLine_eq];decide,h⟩⟩
theorem KN {d e:D}:mz (Bj (mz (t3C d) (mz (t3C e) BH))) t3 Γ QA=(t3 Γ fun xs Γ2=>QA (.tup [d,e]::xs) Γ2):=by
 show Bj (mz (t3C d) (mz (t3C e) BH)) Γ (fun x Γ1=>t3 Γ1 fun xs Γ2=>QA (x.d::xs) Γ2)=_
 rw[D4];rfl
end
theorem ln0 {α:Type} {us:List α} (h:us.length=0):us=[]:=List.eq_nil_of_length_eq_zero h
theorem ln1 {α:Type} {us:List α} (h:us.length=1):∃ a,us=[a]:=by
 match us,h with
 | [a],_=>exact⟨a,rfl⟩
theorem ln2 {α:Type} {us:List α} (h:us.length=2):∃ a b,us=[a,b]:=by
 match us,h with
 | [a,b],_=>exact⟨a,b,rfl⟩
theorem ln3 {α:Type} {us:List α} (h:us.length=3):∃ a b c,us=[a,b,c]:=by
 match us,h with
 | [a,b,c],_=>exact⟨a,b,c,rfl⟩
theorem ln4 {α:Type} {us:List α} (h:us.length=4):∃ a b c d,us=[a,b,c,d]:=by
 match us,h with
 | [a,b,c,d],_=>exact⟨a,b,c,d,rfl⟩
theorem ln5 {α:Type} {us:List α} (h:us.length=5):∃ a b c d e,us=[a,b,c,d,e]:=by
 match us,h with
 | [a,b,c,d,e],_=>exact⟨a,b,c,d,e,rfl⟩
end L3
set_option maxHeartbeats 4000000
namespace K21
open PySem L2 L3
def fw (b:Option D):Option Sl:=b.map Sl.ow
theorem zP {s:Option D} {Γ:G}:dW (fw s::Γ) 0=True:=by cases s <;> rfl
theorem GI {n:Option D}:nI n none=none:=rfl
theorem Jt {n:Option D} {d:D}:nI n (some (.fz d))=some (.fz d):=rfl
theorem Ju {n:Option D} {d:D}:nI n (some (.ow d))=some (.ow (n.getD d)):=rfl
theorem GJ {n:Option D} {d:D}:nI n (some (.ln d))=some (.ln (n.getD d)):=rfl
theorem Jw {n:Option D} {s:Option D}:nI n (fo s)=fo s:=by cases s <;> rfl
theorem Jv {n:Option D} {s:Option D}:nI n (fw s)=fw (s.map fun d=>n.getD d):=by cases s <;> rfl
def mkL(s:String):Lean.MacroM (Array (Lean.TSyntax [`Lean.Parser.Tactic.simpStar,`Lean.Parser.Tactic.simpErase,`Lean.Parser.Tactic.simpLemma])):=do
 let mut xs:=#[]
 for w in s.splitOn " " do
  let n:=(w.dropWhile (·=='↓')).toString.toName
  let i:=match (←Lean.Macro.resolveGlobalName n) with
   |(c,[])::_=>Lean.mkCIdent c
   |_=>Lean.mkIdent n
  let t←if w.startsWith "↓" then `(Lean.Parser.Tactic.simpLemma|↓$i:ident) else `(Lean.Parser.Tactic.simpLemma|$i:ident)
  xs:=xs.push ⟨t.raw⟩
 return xs
local macro_rules | `(tactic| walk_at "y3")=>do `(tactic| try simp -dsimp only [$(←mkL "iI List.length_cons List.length_nil Nat.reduceAdd Nat.reduceSub Nat.zero_add List.replicate List.cons_append List.nil_append List.append_nil ↓u6 ↓p6 ↓u5 ↓D8 ↓Eb ↓u7 ↓Cf ↓Cg ↓Cd ↓Ce FL ↓D7 ↓lB ↓yT mP ↓sT ↓sU ↓kI ↓mY ↓p5 ↓D4 ↓KN ↓KL ↓zL ↓D_ ↓h_c uF Bn ↓u4 ↓Hr ↓KI ↓Hn qL FV AA ↓KJ ↓Ea ↓D5 Gat Bo.at ats RV.d RV.sl uu i2 i2' uk eq3 eqS ↓AL ↓DV jk ke wq wt wA BU mx3 Jx wD DC n4 zQ zN zO n5 sl3 E_ ↓D9 ↓D6 DQ nZ rO is3 knD dB dI dL dT ↓Hq ext3 yP nA vj beq_self_eq_true i28 E9 xD yn List.zip_cons_cons List.lookup_cons List.lookup_nil ↓vB sG ph ↓DJ wJ ↓A2 zR ↓DY wa ↓yU sE ↓zY ↓wX Gs Gr Gq tgP dS Fw Ar Gn GK xE CF RV.fz.injEq ↓vA ck putD tgN tgT gives frees iL3 iR1 iR2 iZ3 iE3 lz3 ES ↓mZ ↓w4 ↓tF ↓zS List.isEmpty_nil List.isEmpty_cons ↓Ec ↓AS Ej tu ↓Ho ↓DG fA jY fI ej dz List.map_cons List.map_nil Option.bind_some Option.bind_none List.nodup_nil List.nodup_cons List.getElem?_cons_zero List.getElem?_cons_succ List.getElem?_nil List.set_cons_zero List.set_cons_succ exists_eq_left' exists_eq_left exists_eq' exists_eq exists_and_left exists_and_right Option.some.injEq D.int.injEq D.lst.injEq D.str.injEq D.tup.injEq D.bl.injEq D.ins.injEq D.ty.injEq List.cons.injEq and_true true_and and_false false_and true_or false_or or_false or_true and_assoc List.not_mem_nil not_false_eq_true ox tD Ca uj Ek tq El jN Bool.false_xor Bool.not_true Bool.not_false Bool.true_xor m5 List.mapIdx_cons List.mapIdx_nil cm ite_self newD Option.getD_some Option.getD_none ER EO EN EM zI zH zG if_pos if_true if_false List.all_cons List.all_nil Option.isNone_none Bool.and_true Bool.true_and decide_eq_true_eq not_true not_false_iff reduceCtorEq eq_self Bool.false_eq_true reduceIte Int.reduceEq GI Jt Ju GJ Jw Jv zP"),*])
def top (i:Nat):Stmt:=PySem.Challenge.pw_halvedpictures_k21_plans_told.main.body.getD i (.Pass ⟨0,0,0,0⟩)
abbrev dq:Stmt:=top 13
abbrev cQ:Stmt:=top 14
abbrev ek:Stmt:=top 15
abbrev cu:Stmt:=top 16
abbrev dY:Stmt:=top 17
abbrev bg:Stmt:=top 18
abbrev dn:Stmt:=top 20
abbrev dE:Stmt:=top 21
abbrev cX:Stmt:=inClass (top 22) 0
abbrev bY:Stmt:=inClass (top 22) 1
abbrev cY:Stmt:=inClass (top 22) 2
abbrev bW:Stmt:=inClass (top 22) 3
abbrev bX:Stmt:=inClass (top 22) 4
abbrev bB:Stmt:=inClass (top 22) 5
abbrev bV:Stmt:=inClass (top 22) 6
abbrev aX:Stmt:=inClass (top 22) 7
abbrev aY:Stmt:=inClass (top 22) 8
abbrev bH:Stmt:=inClass (top 22) 9
abbrev bI:Stmt:=inClass (top 22) 10
abbrev b7:Stmt:=inClass (top 23) 0
abbrev aP:Stmt:=inClass (top 23) 1
abbrev aQ:Stmt:=inClass (top 23) 2
abbrev bp:Stmt:=inClass (top 23) 3
abbrev bq:Stmt:=inClass (top 23) 4
abbrev jr:Stmt:=top 25
abbrev gK:Stmt:=top 26
abbrev dD:Stmt:=top 27
abbrev fN:Stmt:=top 28
abbrev fO:Stmt:=top 29
abbrev bK:Stmt:=inClass (top 30) 0
abbrev aU:Stmt:=inClass (top 30) 1
abbrev aV:Stmt:=inClass (top 30) 2
abbrev bJ:Stmt:=inClass (top 31) 0
abbrev bc:Stmt:=inClass (top 31) 1
abbrev bf:Stmt:=inClass (top 31) 2
abbrev cS:Stmt:=top 32
abbrev dX:Stmt:=top 33
abbrev cR:Stmt:=top 37
abbrev cq:Stmt:=top 38
abbrev cF:Stmt:=top 39
abbrev bD:Stmt:=inClass (top 40) 0
abbrev bZ:Stmt:=inClass (top 40) 1
abbrev cz:Stmt:=inClass (top 40) 2
abbrev cZ:Stmt:=inClass (top 40) 3
abbrev dv:Stmt:=inClass (top 40) 4
abbrev cA:Stmt:=inClass (top 40) 5
abbrev b6:Stmt:=inClass (top 40) 6
abbrev cB:Stmt:=inClass (top 40) 7
abbrev aO:Stmt:=inClass (top 40) 8
abbrev b9:Stmt:=inClass (top 40) 9
abbrev bC:Stmt:=inClass (top 40) 10
abbrev cW:Stmt:=top 42
abbrev du:Stmt:=top 43
abbrev cT:Stmt:=top 44
abbrev cU:Stmt:=top 45
abbrev dr:Stmt:=top 46
abbrev bF:Stmt:=top 47
abbrev cv:Stmt:=top 48
abbrev cx:Stmt:=top 49
abbrev cy:Stmt:=top 50
abbrev cV:Stmt:=top 51
abbrev aK:Stmt:=top 52
abbrev aM:Stmt:=top 53
abbrev bU:Stmt:=top 54
abbrev nv:Stmt:=top 55
theorem xx:ar ["thing","low","high"] ["thing","low","high"] (ab dq):=⟨rfl,rfl,rfl,by decide +kernel,rfl,by decide +kernel,by decide +kernel⟩
theorem vC:ar ["thing"] ["thing"] (ab cQ):=⟨rfl,rfl,rfl,by decide +kernel,rfl,by decide +kernel,by decide +kernel⟩
theorem Bq:ar ["thing","least"] ["thing","least"] (ab ek):=⟨rfl,rfl,rfl,by decide +kernel,rfl,by decide +kernel,by decide +kernel⟩
def rq:Scope:={ kind:=.function,names:=[(".0",.local),("number",.local),("is_number",.globalImplicit)],isGenerator:=false,isCoroutine:=false,more:=[] }
theorem pw:Blk ["thing","least"] (ab ek) rq ["number"] [none]:=⟨rfl,by decide +kernel,by decide +kernel,by decide +kernel,by decide +kernel,rfl,by decide +kernel⟩
theorem t9:ar ["sums","differences"] ["sums","differences"] (ab cu):=⟨rfl,rfl,rfl,by decide +kernel,rfl,by decide +kernel,by decide +kernel⟩
theorem yZ:ar ["height","width"] ["height","width"] (ab dY):=⟨rfl,rfl,rfl,by decide +kernel,rfl,by decide +kernel,by decide +kernel⟩
theorem nO:ar ["thing","height","width"] ["thing","height","width"] (ab bg):=⟨rfl,rfl,rfl,by decide +kernel,rfl,by decide +kernel,by decide +kernel⟩
theorem xw:ar ["row"] ["row"] (ab dn):=⟨rfl,rfl,rfl,by decide +kernel,rfl,by decide +kernel,by decide +kernel⟩
theorem y3:ar ["row"] ["row"] (ab dE):=⟨rfl,rfl,rfl,by decide +kernel,rfl,by decide +kernel,by decide +kernel⟩
def qf:Scope:={ kind:=.function,names:=[(".0",.local),("first",.local),("second",.local)],isGenerator:=false,isCoroutine:=false,more:=[] }
theorem jH:Blk ["row"] (ab dE) qf ["first","second"] [none,none]:=⟨rfl,by decide +kernel,by decide +kernel,by decide +kernel,by decide +kernel,rfl,by decide +kernel⟩
theorem vH:ar ["self"] ["self"] (ab cX):=⟨rfl,rfl,rfl,by decide +kernel,rfl,by decide +kernel,by decide +kernel⟩
theorem rY:ar ["self","row"] ["self","row"] (ab bY):=⟨rfl,rfl,rfl,by decide +kernel,rfl,by decide +kernel,by decide +kernel⟩
theorem vI:ar ["self","sums","differences"] ["self","sums","differences"] (ab cY):=⟨rfl,rfl,rfl,by decide +kernel,rfl,by decide +kernel,by decide +kernel⟩
theorem rW:ar ["self","row"] ["self","row"] (ab bW):=⟨rfl,rfl,rfl,by decide +kernel,rfl,by decide +kernel,by decide +kernel⟩
theorem rX:ar ["self","sums","differences"] ["self","sums","differences"] (ab bX):=⟨rfl,rfl,rfl,by decide +kernel,rfl,by decide +kernel,by decide +kernel⟩
theorem kL:ar ["self","row","sums"] ["self","row"] (ab bB):=⟨rfl,rfl,rfl,by decide +kernel,rfl,by decide +kernel,by decide +kernel⟩
def lu:Scope:={ kind:=.function,names:=[(".0",.local),("first",.local),("second",.local),("self",.free)],isGenerator:=false,isCoroutine:=false,more:=[] }
theorem fu:Blk ["self","row","sums"] (ab bB) lu ["first","second","self"] [none,none,some 0]:=⟨rfl,by decide +kernel,by decide +kernel,by decide +kernel,by decide +kernel,rfl,by decide +kernel⟩
theorem fL:ar ["self","sums","gaps","row","total","gap"] ["self","sums","gaps"] (ab bV):=⟨rfl,rfl,rfl,by decide +kernel,rfl,by decide +kernel,by decide +kernel⟩
theorem m3:ar ["self","first","second"] ["self","first","second"] (ab aX):=⟨rfl,rfl,rfl,by decide +kernel,rfl,by decide +kernel,by decide +kernel⟩
theorem m4:ar ["self","number"] ["self","number"] (ab aY):=⟨rfl,rfl,rfl,by decide +kernel,rfl,by decide +kernel,by decide +kernel⟩
theorem kM:ar ["self","total","gap","first"] ["self","total","gap"] (ab bH):=⟨rfl,rfl,rfl,by decide +kernel,rfl,by decide +kernel,by decide +kernel⟩
theorem qX:ar ["self","total"] ["self","total"] (ab bI):=⟨rfl,rfl,rfl,by decide +kernel,rfl,by decide +kernel,by decide +kernel⟩
theorem r9:ar ["self"] ["self"] (ab b7):=⟨rfl,rfl,rfl,by decide +kernel,rfl,by decide +kernel,by decide +kernel⟩
theorem kW:ar ["self","first","second"] ["self","first","second"] (ab aP):=⟨rfl,rfl,rfl,by decide +kernel,rfl,by decide +kernel,by decide +kernel⟩
theorem kX:ar ["self","number"] ["self","number"] (ab aQ):=⟨rfl,rfl,rfl,by decide +kernel,rfl,by decide +kernel,by decide +kernel⟩
theorem je:ar ["self","total","gap","first"] ["self","total","gap"] (ab bp):=⟨rfl,rfl,rfl,by decide +kernel,rfl,by decide +kernel,by decide +kernel⟩
theorem oH:ar ["self","total"] ["self","total"] (ab bq):=⟨rfl,rfl,rfl,by decide +kernel,rfl,by decide +kernel,by decide +kernel⟩
theorem Fd:ar ["numbers","at"] ["numbers","at"] (ab jr):=⟨rfl,rfl,rfl,by decide +kernel,rfl,by decide +kernel,by decide +kernel⟩
theorem oG:ar ["firsts","seconds","row","first","second"] ["firsts","seconds"] (ab gK):=⟨rfl,rfl,rfl,by decide +kernel,rfl,by decide +kernel,by decide +kernel⟩
theorem y0:ar ["firsts","many"] ["firsts","many"] (ab dD):=⟨rfl,rfl,rfl,by decide +kernel,rfl,by decide +kernel,by decide +kernel⟩
def qe:Scope:={ kind:=.function,names:=[(".0",.local),("at",.local),("near",.globalImplicit),("firsts",.free)],isGenerator:=false,isCoroutine:=false,more:=[] }
theorem nH:Blk ["firsts","many"] (ab dD) qe ["at","firsts"] [none,some 0]:=⟨rfl,by decide +kernel,by decide +kernel,by decide +kernel,by decide +kernel,rfl,by decide +kernel⟩
theorem CG:ar ["differences","many"] ["differences","many"] (ab fN):=⟨rfl,rfl,rfl,by decide +kernel,rfl,by decide +kernel,by decide +kernel⟩
def tK:Scope:={ kind:=.function,names:=[(".0",.local),("at",.local),("near",.globalImplicit),("differences",.free)],isGenerator:=false,isCoroutine:=false,more:=[] }
theorem qI:Blk ["differences","many"] (ab fN) tK ["at","differences"] [none,some 0]:=⟨rfl,by decide +kernel,by decide +kernel,by decide +kernel,by decide +kernel,rfl,by decide +kernel⟩
theorem CH:ar ["sums","many"] ["sums","many"] (ab fO):=⟨rfl,rfl,rfl,by decide +kernel,rfl,by decide +kernel,by decide +kernel⟩
def tL:Scope:={ kind:=.function,names:=[(".0",.local),("at",.local),("near",.globalImplicit),("sums",.free)],isGenerator:=false,isCoroutine:=false,more:=[] }
theorem qJ:Blk ["sums","many"] (ab fO) tL ["at","sums"] [none,some 0]:=⟨rfl,by decide +kernel,by decide +kernel,by decide +kernel,by decide +kernel,rfl,by decide +kernel⟩
theorem qZ:ar ["self"] ["self"] (ab bK):=⟨rfl,rfl,rfl,by decide +kernel,rfl,by decide +kernel,by decide +kernel⟩
theorem eh:ar ["self","row","firsts","seconds","differences","sums"] ["self","row"] (ab aU):=⟨rfl,rfl,rfl,by decide +kernel,rfl,by decide +kernel,by decide +kernel⟩
def jS:Scope:={ kind:=.function,names:=[(".0",.local),("first",.local),("lift",.local)],isGenerator:=false,isCoroutine:=false,more:=[] }
theorem eJ:Blk ["self","row","firsts","seconds","differences","sums"] (ab aU) jS ["first","lift"] [none,none]:=⟨rfl,by decide +kernel,by decide +kernel,by decide +kernel,by decide +kernel,rfl,by decide +kernel⟩
def jR:Scope:={ kind:=.function,names:=[(".0",.local),("second",.local),("guess",.local)],isGenerator:=false,isCoroutine:=false,more:=[] }
theorem eI:Blk ["self","row","firsts","seconds","differences","sums"] (ab aU) jR ["second","guess"] [none,none]:=⟨rfl,by decide +kernel,by decide +kernel,by decide +kernel,by decide +kernel,rfl,by decide +kernel⟩
theorem fM:ar ["self","sums","differences","firsts","seconds"] ["self","sums","differences"] (ab aV):=⟨rfl,rfl,rfl,by decide +kernel,rfl,by decide +kernel,by decide +kernel⟩
def jU:Scope:={ kind:=.function,names:=[(".0",.local),("less",.local),("guess",.local)],isGenerator:=false,isCoroutine:=false,more:=[] }
theorem eL:Blk ["self","sums","differences","firsts","seconds"] (ab aV) jU ["less","guess"] [none,none]:=⟨rfl,by decide +kernel,by decide +kernel,by decide +kernel,by decide +kernel,rfl,by decide +kernel⟩
def jT:Scope:={ kind:=.function,names:=[(".0",.local),("total",.local),("lift",.local)],isGenerator:=false,isCoroutine:=false,more:=[] }
theorem eK:Blk ["self","sums","differences","firsts","seconds"] (ab aV) jT ["total","lift"] [none,none]:=⟨rfl,by decide +kernel,by decide +kernel,by decide +kernel,by decide +kernel,rfl,by decide +kernel⟩
theorem qY:ar ["self"] ["self"] (ab bJ):=⟨rfl,rfl,rfl,by decide +kernel,rfl,by decide +kernel,by decide +kernel⟩
theorem jc:ar ["self","row","sums","gaps"] ["self","row"] (ab bc):=⟨rfl,rfl,rfl,by decide +kernel,rfl,by decide +kernel,by decide +kernel⟩
def jP:Scope:={ kind:=.function,names:=[(".0",.local),("gap",.local),("lean",.local)],isGenerator:=false,isCoroutine:=false,more:=[] }
theorem eE:Blk ["self","row","sums","gaps"] (ab bc) jP ["gap","lean"] [none,none]:=⟨rfl,by decide +kernel,by decide +kernel,by decide +kernel,by decide +kernel,rfl,by decide +kernel⟩
theorem jd:ar ["self","sums","differences","gaps"] ["self","sums","differences"] (ab bf):=⟨rfl,rfl,rfl,by decide +kernel,rfl,by decide +kernel,by decide +kernel⟩
def jQ:Scope:={ kind:=.function,names:=[(".0",.local),("less",.local),("lean",.local)],isGenerator:=false,isCoroutine:=false,more:=[] }
theorem eF:Blk ["self","sums","differences","gaps"] (ab bf) jQ ["less","lean"] [none,none]:=⟨rfl,by decide +kernel,by decide +kernel,by decide +kernel,by decide +kernel,rfl,by decide +kernel⟩
theorem vE:ar [] [] (ab cS):=⟨rfl,rfl,rfl,by decide +kernel,rfl,by decide +kernel,by decide +kernel⟩
theorem rV:ar ["word","rule"] ["word"] (ab dX):=⟨rfl,rfl,rfl,by decide +kernel,rfl,by decide +kernel,by decide +kernel⟩
theorem vD:ar ["letter","height","width"] ["letter","height","width"] (ab cR):=⟨rfl,rfl,rfl,by decide +kernel,rfl,by decide +kernel,by decide +kernel⟩
theorem e7:ar ["height","width","way","corners","letter"] ["height","width","way"] (ab cq):=⟨rfl,rfl,rfl,by decide +kernel,rfl,by decide +kernel,by decide +kernel⟩
theorem fJ:ar ["part","top","left","height","width"] ["part"] (ab cF):=⟨rfl,rfl,rfl,by decide +kernel,rfl,by decide +kernel,by decide +kernel⟩
def ou:Scope:={ kind:=.function,names:=[(".0",.local),("y",.local),("x",.local),("range",.globalImplicit),("left",.free),("width",.free)],isGenerator:=false,isCoroutine:=false,more:=[] }
theorem ik:Blk ["part","top","left","height","width"] (ab cF) ou ["y","x","left","width"] [none,none,some 2,some 4]:=⟨rfl,by decide +kernel,by decide +kernel,by decide +kernel,by decide +kernel,rfl,by decide +kernel⟩
theorem pQ:ar ["self","height","width","word","way"] ["self","height","width","word","way"] (ab bD):=⟨rfl,rfl,rfl,by decide +kernel,rfl,by decide +kernel,by decide +kernel⟩
theorem rZ:ar ["self"] ["self"] (ab bZ):=⟨rfl,rfl,rfl,by decide +kernel,rfl,by decide +kernel,by decide +kernel⟩
theorem ua:ar ["self"] ["self"] (ab cz):=⟨rfl,rfl,rfl,by decide +kernel,rfl,by decide +kernel,by decide +kernel⟩
theorem vJ:ar ["self"] ["self"] (ab cZ):=⟨rfl,rfl,rfl,by decide +kernel,rfl,by decide +kernel,by decide +kernel⟩
theorem xA:ar ["self"] ["self"] (ab dv):=⟨rfl,rfl,rfl,by decide +kernel,rfl,by decide +kernel,by decide +kernel⟩
theorem ub:ar ["self"] ["self"] (ab cA):=⟨rfl,rfl,rfl,by decide +kernel,rfl,by decide +kernel,by decide +kernel⟩
theorem r8:ar ["self","step"] ["self","step"] (ab b6):=⟨rfl,rfl,rfl,by decide +kernel,rfl,by decide +kernel,by decide +kernel⟩
theorem e9:ar ["self","height","width","parts","step"] ["self"] (ab cB):=⟨rfl,rfl,rfl,by decide +kernel,rfl,by decide +kernel,by decide +kernel⟩
theorem bx:ar ["self","step","height","width","many_down","many_along","letter","parts"] ["self","step"] (ab aO):=⟨rfl,rfl,rfl,by decide +kernel,rfl,by decide +kernel,by decide +kernel⟩
theorem uc:ar ["self"] ["self"] (ab b9):=⟨rfl,rfl,rfl,by decide +kernel,rfl,by decide +kernel,by decide +kernel⟩
def nr:Scope:={ kind:=.function,names:=[(".0",.local),("part",.local),("place",.local),("places_of",.globalImplicit)],isGenerator:=false,isCoroutine:=false,more:=[] }
theorem gH:Blk ["self"] (ab b9) nr ["part","place"] [none,none]:=⟨rfl,by decide +kernel,by decide +kernel,by decide +kernel,by decide +kernel,rfl,by decide +kernel⟩
theorem dc:ar ["self","place","many","letter","height","width"] ["self","place"] (ab bC):=⟨rfl,rfl,rfl,by decide +kernel,rfl,by decide +kernel,by decide +kernel⟩
theorem vG:ar ["_law_script","_law_k"] ["_law_script","_law_k"] (ab cW):=⟨rfl,rfl,rfl,by decide +kernel,rfl,by decide +kernel,by decide +kernel⟩
theorem xy:ar ["_law_cell_here"] ["_law_cell_here"] (ab du):=⟨rfl,rfl,rfl,by decide +kernel,rfl,by decide +kernel,by decide +kernel⟩
theorem fK:ar ["_law_box_here","_law_many_here","_law_digit","_law_far","_law_number"] ["_law_box_here","_law_many_here"] (ab cT):=⟨rfl,rfl,rfl,by decide +kernel,rfl,by decide +kernel,by decide +kernel⟩
theorem j7:ar ["_law_box_here","_law_way_here","_law_high"] ["_law_box_here"] (ab cU):=⟨rfl,rfl,rfl,by decide +kernel,rfl,by decide +kernel,by decide +kernel⟩
theorem cO:ar ["_law_box_here","_law_size_here","_law_high","_law_wide","_law_way_here","_law_k","_law_some","_law_letter"] ["_law_box_here","_law_size_here"] (ab dr):=⟨rfl,rfl,rfl,by decide +kernel,rfl,by decide +kernel,by decide +kernel⟩
theorem cK:ar ["_law_size_here","_law_way_here","_law_found","_law_letter","_law_high","_law_wide"] ["_law_size_here","_law_way_here"] (ab bF):=⟨rfl,rfl,rfl,by decide +kernel,rfl,by decide +kernel,by decide +kernel⟩
theorem t_:ar ["_law_found"] ["_law_found"] (ab cv):=⟨rfl,rfl,rfl,by decide +kernel,rfl,by decide +kernel,by decide +kernel⟩
theorem cP:ar ["_law_size_here","_law_way_here","_law_corners_here","_law_found","_law_step","_law_high","_law_wide","_law_low","_law_right"] ["_law_size_here","_law_way_here"] (ab cx):=⟨rfl,rfl,rfl,by decide +kernel,rfl,by decide +kernel,by decide +kernel⟩
theorem cn:ar ["_law_parts_here","_law_found","_law_step","_law_word","_law_top","_law_left","_law_high","_law_wide","_law_at"] ["_law_parts_here"] (ab cy):=⟨rfl,rfl,rfl,by decide +kernel,rfl,by decide +kernel,by decide +kernel⟩
theorem vF:ar ["_law_way_here","_law_step"] ["_law_way_here","_law_step"] (ab cV):=⟨rfl,rfl,rfl,by decide +kernel,rfl,by decide +kernel,by decide +kernel⟩
theorem bu:ar ["_law_plan","_law_size_here","_law_word","_law_way_here","_law_corners_here","_law_found","_law_sums","_law_plain","_law_step"] ["_law_plan","_law_size_here","_law_word","_law_way_here"] (ab aK):=⟨rfl,rfl,rfl,by decide +kernel,rfl,by decide +kernel,by decide +kernel⟩
def iz:Scope:={ kind:=.function,names:=[(".0",.local),("_law_number",.local),("_law_whole",.globalImplicit)],isGenerator:=false,isCoroutine:=false,more:=[] }
theorem fg:Blk ["_law_plan","_law_size_here","_law_word","_law_way_here","_law_corners_here","_law_found","_law_sums","_law_plain","_law_step"] (ab aK) iz ["_law_number"] [none]:=⟨rfl,by decide +kernel,by decide +kernel,by decide +kernel,by decide +kernel,rfl,by decide +kernel⟩
theorem aG:ar ["_law_plan","_law_size_here","_law_way_here","_law_parts_here","_law_step","_law_word","_law_top","_law_left","_law_high","_law_wide","_law_places","_law_place","_law_found"] ["_law_plan","_law_size_here","_law_way_here"] (ab aM):=⟨rfl,rfl,rfl,by decide +kernel,rfl,by decide +kernel,by decide +kernel⟩
def iZ:Scope:={ kind:=.function,names:=[(".0",.local),("_law_at",.local),("_law_left",.free),("_law_top",.free),("_law_wide",.free)],isGenerator:=false,isCoroutine:=false,more:=[] }
theorem fH:Blk ["_law_plan","_law_size_here","_law_way_here","_law_parts_here","_law_step","_law_word","_law_top","_law_left","_law_high","_law_wide","_law_places","_law_place","_law_found"] (ab aM) iZ ["_law_at","_law_left","_law_top","_law_wide"] [none,some 7,some 6,some 9]:=⟨rfl,by decide +kernel,by decide +kernel,by decide +kernel,by decide +kernel,rfl,by decide +kernel⟩
theorem lE:ar ["_law_box_here","_law_some","_law_manner"] ["_law_box_here","_law_some"] (ab bU):=⟨rfl,rfl,rfl,by decide +kernel,rfl,by decide +kernel,by decide +kernel⟩
theorem jq:ar ["_law_script","_law_k","_law_box_here","_law_size_here","_law_word","_law_way_here","_law_plan","_law_turn","_law_owned","_law_shown"] ["_law_script"] (ab nv):=⟨rfl,rfl,rfl,by decide +kernel,rfl,by decide +kernel,by decide +kernel⟩
set_option genInjectivity false in
set_option genSizeOf false in
structure Ad where
 bM:Addr
 cN:Addr
 aC:Addr
 aH:Addr
 aB:Addr
 aW:Addr
 bj:Addr
 og:Addr
 md:FuncData
 mj:Addr
 ki:FuncData
 tm:Addr
 p9:FuncData
 kA:Addr
 jv:FuncData
 qb:Addr
 n8:FuncData
 gg:Addr
 ft:FuncData
 oa:Addr
 ma:FuncData
 qd:Addr
 n_:FuncData
 mw:Addr
 kr:FuncData
 d6:Addr
 iS:FuncData
 fG:Addr
 ku:FuncData
 gQ:Addr
 iQ:FuncData
 gR:Addr
 iR:FuncData
 dG:Addr
 hW:FuncData
 dZ:Addr
 iP:FuncData
 dM:Addr
 eV:FuncData
 dN:Addr
 eX:FuncData
 gi:Addr
 hX:FuncData
 gj:Addr
 hZ:FuncData
 jG:Addr
 iV:FuncData
 dh:Addr
 d_:FuncData
 dk:Addr
 ed:FuncData
 eO:Addr
 f_:FuncData
 eP:Addr
 gb:FuncData
 zU:Addr
 wM:FuncData
 wO:Addr
 sY:FuncData
 qc:Addr
 n9:FuncData
 wQ:Addr
 sZ:FuncData
 wR:Addr
 s_:FuncData
 iY:Addr
 h_:FuncData
 gE:Addr
 gc:FuncData
 gF:Addr
 gf:FuncData
 iX:Addr
 h9:FuncData
 gC:Addr
 fY:FuncData
 gD:Addr
 fZ:FuncData
 mm:Addr
 kl:FuncData
 p_:Addr
 n6:FuncData
 ml:Addr
 kj:FuncData
 kz:Addr
 ju:FuncData
 mi:Addr
 kh:FuncData
 ig:Addr
 gB:FuncData
 jE:Addr
 iT:FuncData
 kE:Addr
 jz:FuncData
 mx:Addr
 ky:FuncData
 oo:Addr
 mh:FuncData
 kF:Addr
 jA:FuncData
 jF:Addr
 iU:FuncData
 kG:Addr
 jB:FuncData
 eD:Addr
 d9:FuncData
 kH:Addr
 jC:FuncData
 ic:Addr
 gA:FuncData
 mv:Addr
 kq:FuncData
 om:Addr
 mf:FuncData
 mn:Addr
 km:FuncData
 mq:Addr
 kn:FuncData
 oi:Addr
 me:FuncData
 iW:Addr
 hV:FuncData
 kB:Addr
 jw:FuncData
 kC:Addr
 jx:FuncData
 kD:Addr
 jy:FuncData
 mr:Addr
 ko:FuncData
 eC:Addr
 d8:FuncData
 eY:Addr
 eB:FuncData
 jD:Addr
 iO:FuncData
 AW:Addr
 wN:FuncData
structure Txt (K:PySem.W.Frag) (mg:Str→Option Value) (a:Ad):Prop where
 gG:Cls K a.aC
 zC:mg "Guessed"=some (.ref a.aC)
 mk_Guessed:Mk0 K a.aC
 df:Cls K a.aH
 BQ:mg "Halves"=some (.ref a.aH)
 mk_Halves:Mk0 K a.aH
 cM:Cls K a.aB
 zB:mg "Leaning"=some (.ref a.aB)
 mk_Leaning:Mk0 K a.aB
 aD:Cls K a.aW
 AH:mg "Plan"=some (.ref a.aW)
 fj:Cls K a.bj
 Gf:mg "Sums"=some (.ref a.bj)
 mk_Sums:Mk0 K a.bj
 lS:gq K a.aW "chosen"
 cc:gq K a.aW "corners"
 dR:gq K a.aW "letters"
 fk:JA K mg "ALONG_PILLARS" a.bM ["p","b"]
 iy:JA K mg "ALONG_ROWS" a.cN ["r","b"]
 tys:TyS K
 fB:Fun K "is_whole" "is_whole" dq a.og a.md
 gI:Binds K a.md ["thing","low","high"] []
 gz:mg "is_whole"=some (.ref a.og)
 qQ:Fun K "is_number" "is_number" cQ a.mj a.ki
 yy:Binds K a.ki ["thing"] []
 x_:mg "is_number"=some (.ref a.mj)
 pG:Fun K "is_row" "is_row" ek a.tm a.p9
 tO:Binds K a.p9 ["thing","least"] []
 sS:mg "is_row"=some (.ref a.tm)
 pJ:Fun K "are_halves" "are_halves" cu a.kA a.jv
 xc:Binds K a.jv ["sums","differences"] []
 wk:mg "are_halves"=some (.ref a.kA)
 vn:Fun K "is_size" "is_size" dY a.qb a.n8
 Cc:Binds K a.n8 ["height","width"] []
 BP:mg "is_size"=some (.ref a.qb)
 gr:Fun K "is_place_within" "is_place_within" bg a.gg a.ft
 jm:Binds K a.ft ["thing","height","width"] []
 jj:mg "is_place_within"=some (.ref a.gg)
 oA:Fun K "pairs_of" "pairs_of" dn a.oa a.ma
 tM:Binds K a.ma ["row"] []
 sQ:mg "pairs_of"=some (.ref a.oa)
 qo:Fun K "gaps_of" "gaps_of" dE a.qd a.n_
 vi:Binds K a.n_ ["row"] []
 uS:mg "gaps_of"=some (.ref a.qd)
 yL:Fun K "word" "Sums.word" cX a.mw a.kr
 qK:Binds K a.kr ["self"] []
 uy:Fun K "halves" "Sums.halves" bY a.d6 a.iS
 gS:Binds K a.iS ["self","row"] []
 yM:Fun K "back" "Sums.back" cY a.fG a.ku
 jn:Binds K a.ku ["self","sums","differences"] []
 uw:Fun K "parted" "Sums.parted" bW a.gQ a.iQ
 nK:Binds K a.iQ ["self","row"] []
 ux:Fun K "joined" "Sums.joined" bX a.gR a.iR
 nL:Binds K a.iR ["self","sums","differences"] []
 tW:Fun K "sums_of" "Sums.sums_of" bB a.dG a.hW
 i5:Binds K a.hW ["self","row"] []
 uv:Fun K "row_of" "Sums.row_of" bV a.dZ a.iP
 jI:Binds K a.iP ["self","sums","gaps"] []
 oB:Fun K "sum_of_pair" "Sums.sum_of_pair" aX a.dM a.eV
 oy:Binds K a.eV ["self","first","second"] []
 oC:Fun K "sum_of_lone" "Sums.sum_of_lone" aY a.dN a.eX
 oz:Binds K a.eX ["self","number"] []
 tX:Fun K "pair_of" "Sums.pair_of" bH a.gi a.hX
 tP:Binds K a.hX ["self","total","gap"] []
 tY:Fun K "lone_of" "Sums.lone_of" bI a.gj a.hZ
 tQ:Binds K a.hZ ["self","total"] []
 uB:Fun K "word" "Halves.word" b7 a.jG a.iV
 nN:Binds K a.iV ["self"] []
 mM:Fun K "sum_of_pair" "Halves.sum_of_pair" aP a.dh a.d_
 gX:Binds K a.d_ ["self","first","second"] []
 mO:Fun K "sum_of_lone" "Halves.sum_of_lone" aQ a.dk a.ed
 gY:Binds K a.ed ["self","number"] []
 qr:Fun K "pair_of" "Halves.pair_of" bp a.eO a.f_
 jV:Binds K a.f_ ["self","total","gap"] []
 qt:Fun K "lone_of" "Halves.lone_of" bq a.eP a.gb
 jW:Binds K a.gb ["self","total"] []
 ql:Fun K "near" "near" jr a.zU a.wM
 tN:Binds K a.wM ["numbers","at"] []
 sR:mg "near"=some (.ref a.zU)
 Bc:Fun K "woven" "woven" gK a.wO a.sY
 GH:Binds K a.sY ["firsts","seconds"] []
 Ge:mg "woven"=some (.ref a.wO)
 qm:Fun K "guesses" "guesses" dD a.qc a.n9
 vh:Binds K a.n9 ["firsts","many"] []
 uR:mg "guesses"=some (.ref a.qc)
 xk:Fun K "lifts" "lifts" fN a.wQ a.sZ
 A7:Binds K a.sZ ["differences","many"] []
 AF:mg "lifts"=some (.ref a.wQ)
 xl:Fun K "leans" "leans" fO a.wR a.s_
 A8:Binds K a.s_ ["sums","many"] []
 AG:mg "leans"=some (.ref a.wR)
 t4:Fun K "word" "Guessed.word" bK a.iY a.h_
 mH:Binds K a.h_ ["self"] []
 qu:Fun K "parted" "Guessed.parted" aU a.gE a.gc
 qi:Binds K a.gc ["self","row"] []
 qv:Fun K "joined" "Guessed.joined" aV a.gF a.gf
 qj:Binds K a.gf ["self","sums","differences"] []
 tZ:Fun K "word" "Leaning.word" bJ a.iX a.h9
 mG:Binds K a.h9 ["self"] []
 qp:Fun K "parted" "Leaning.parted" bc a.gC a.fY
 qg:Binds K a.fY ["self","row"] []
 qq:Fun K "joined" "Leaning.joined" bf a.gD a.fZ
 qh:Binds K a.fZ ["self","sums","differences"] []
 qS:Fun K "all_rules" "all_rules" cS a.mm a.kl
 yA:Binds K a.kl [] []
 yb:mg "all_rules"=some (.ref a.mm)
 vm:Fun K "rule_of" "rule_of" dX a.p_ a.n6
 Cb:Binds K a.n6 ["word"] []
 BO:mg "rule_of"=some (.ref a.p_)
 qR:Fun K "can_halve" "can_halve" cR a.ml a.kj
 yz:Binds K a.kj ["letter","height","width"] []
 ya:mg "can_halve"=some (.ref a.ml)
 pI:Fun K "corners_of" "corners_of" cq a.kz a.ju
 xb:Binds K a.ju ["height","width","way"] []
 wj:mg "corners_of"=some (.ref a.kz)
 qP:Fun K "places_of" "places_of" cF a.mi a.kh
 yx:Binds K a.kh ["part"] []
 x9:mg "places_of"=some (.ref a.mi)
 rD:Fun K "__init__" "Plan.__init__" bD a.ig a.gB
 kT:Binds K a.gB ["self","height","width","word","way"] []
 uz:Fun K "height" "Plan.height" bZ a.jE a.iT
 nM:Binds K a.iT ["self"] []
 xm:Fun K "width" "Plan.width" cz a.kE a.jz
 pB:Binds K a.jz ["self"] []
 yN:Fun K "rule" "Plan.rule" cZ a.mx a.ky
 cf:Binds K a.ky ["self"] []
 Aa:Fun K "way" "Plan.way" dv a.oo a.mh
 tR:Binds K a.mh ["self"] []
 xn:Fun K "steps" "Plan.steps" cA a.kF a.jA
 iA:Binds K a.jA ["self"] []
 uA:Fun K "corner" "Plan.corner" b6 a.jF a.iU
 ur:Binds K a.iU ["self","step"] []
 xo:Fun K "parts" "Plan.parts" cB a.kG a.jB
 gp:Binds K a.jB ["self"] []
 mK:Fun K "parts_of_step" "Plan.parts_of_step" aO a.eD a.d9
 mF:Binds K a.d9 ["self","step"] []
 xp:Fun K "order" "Plan.order" b9 a.kH a.jC
 iB:Binds K a.jC ["self"] []
 rC:Fun K "halvings" "Plan.halvings" bC a.ic a.gA
 rA:Binds K a.gA ["self","place"] []
 qV:Fun K "_law_cell" "_law_cell" cW a.mv a.kq
 yD:Binds K a.kq ["_law_script","_law_k"] []
 ye:mg "_law_cell"=some (.ref a.mv)
 tV:Fun K "_law_box" "_law_box" du a.om a.mf
 z8:Binds K a.mf ["_law_cell_here"] []
 zA:mg "_law_box"=some (.ref a.om)
 cH:Fun K "_law_take" "_law_take" cT a.mn a.km
 da:Binds K a.km ["_law_box_here","_law_many_here"] []
 c_:mg "_law_take"=some (.ref a.mn)
 qT:Fun K "_law_size" "_law_size" cU a.mq a.kn
 yB:Binds K a.kn ["_law_box_here"] []
 yc:mg "_law_size"=some (.ref a.mq)
 tU:Fun K "_law_way" "_law_way" dr a.oi a.me
 z7:Binds K a.me ["_law_box_here","_law_size_here"] []
 zz:mg "_law_way"=some (.ref a.oi)
 ja:Fun K "_law_corners" "_law_corners" bF a.iW a.hV
 mE:Binds K a.hV ["_law_size_here","_law_way_here"] []
 lW:mg "_law_corners"=some (.ref a.iW)
 kK:Fun K "_law_whole" "_law_whole" cv a.kB a.jw
 pA:Binds K a.jw ["_law_found"] []
 pd:mg "_law_whole"=some (.ref a.kB)
 pK:Fun K "_law_parts" "_law_parts" cx a.kC a.jx
 xf:Binds K a.jx ["_law_size_here","_law_way_here"] []
 wm:mg "_law_parts"=some (.ref a.kC)
 pM:Fun K "_law_order" "_law_order" cy a.kD a.jy
 xg:Binds K a.jy ["_law_parts_here"] []
 wo:mg "_law_order"=some (.ref a.kD)
 qU:Fun K "_law_many" "_law_many" cV a.mr a.ko
 yC:Binds K a.ko ["_law_way_here","_law_step"] []
 yd:mg "_law_many"=some (.ref a.mr)
 gZ:Fun K "_law_numbers_right" "_law_numbers_right" aK a.eC a.d8
 mD:Binds K a.d8 ["_law_plan","_law_size_here","_law_word","_law_way_here"] []
 lV:mg "_law_numbers_right"=some (.ref a.eC)
 dC:Fun K "_law_places_right" "_law_places_right" aM a.eY a.eB
 eZ:Binds K a.eB ["_law_plan","_law_size_here","_law_way_here"] []
 eU:mg "_law_places_right"=some (.ref a.eY)
 jJ:Fun K "_law_shaken" "_law_shaken" bU a.jD a.iO
 nJ:Binds K a.iO ["_law_box_here","_law_some"] []
 nC:mg "_law_shaken"=some (.ref a.jD)
 Le:Fun K "law" "law" nv a.AW a.wN
 L9:Binds K a.wN ["_law_script"] []
 L5:mg "law"=some (.ref a.AW)
 mk_Plan:Mk K a.aW a.ig
 kS:Meth K a.aC "word" a.iY
 o8:Meth K a.aC "parted" a.gE
 o9:Meth K a.aC "joined" a.gF
 o_:Meth K a.aC "halves" a.d6
 rm:Meth K a.aC "back" a.fG
 zm:Meth K a.aC "sums_of" a.dG
 AD:Meth K a.aC "row_of" a.dZ
 we:Meth K a.aC "sum_of_pair" a.dM
 wg:Meth K a.aC "sum_of_lone" a.dN
 zp:Meth K a.aC "pair_of" a.gi
 zq:Meth K a.aC "lone_of" a.gj
 lU:Meth K a.aH "word" a.jG
 lq:Meth K a.aH "sum_of_pair" a.dh
 lr:Meth K a.aH "sum_of_lone" a.dk
 o6:Meth K a.aH "pair_of" a.eO
 o7:Meth K a.aH "lone_of" a.eP
 p3:Meth K a.aH "halves" a.d6
 sO:Meth K a.aH "back" a.fG
 pY:Meth K a.aH "parted" a.gQ
 pZ:Meth K a.aH "joined" a.gR
 oZ:Meth K a.aH "sums_of" a.dG
 pX:Meth K a.aH "row_of" a.dZ
 kR:Meth K a.aB "word" a.iX
 oW:Meth K a.aB "parted" a.gC
 oX:Meth K a.aB "joined" a.gD
 kc:Meth K a.aB "sum_of_pair" a.dh
 kd:Meth K a.aB "sum_of_lone" a.dk
 nW:Meth K a.aB "pair_of" a.eO
 nX:Meth K a.aB "lone_of" a.eP
 oY:Meth K a.aB "halves" a.d6
 rl:Meth K a.aB "back" a.fG
 nV:Meth K a.aB "sums_of" a.dG
 oV:Meth K a.aB "row_of" a.dZ
 lT:Meth K a.aW "height" a.jE
 nB:Meth K a.aW "width" a.kE
 bQ:Meth K a.aW "rule" a.mx
 qB:Meth K a.aW "way" a.oo
 gN:Meth K a.aW "steps" a.kF
 sN:Meth K a.aW "corner" a.jF
 fc:Meth K a.aW "parts" a.kG
 lh:Meth K a.aW "parts_of_step" a.eD
 gO:Meth K a.aW "order" a.kH
 pW:Meth K a.aW "halvings" a.ic
 oU:Meth K a.bj "word" a.mw
 sM:Meth K a.bj "halves" a.d6
 wc:Meth K a.bj "back" a.fG
 sJ:Meth K a.bj "parted" a.gQ
 sL:Meth K a.bj "joined" a.gR
 q_:Meth K a.bj "sums_of" a.dG
 sI:Meth K a.bj "row_of" a.dZ
 m8:Meth K a.bj "sum_of_pair" a.dM
 m9:Meth K a.bj "sum_of_lone" a.dN
 rh:Meth K a.bj "pair_of" a.gi
 rj:Meth K a.bj "lone_of" a.gj
 nG:∃ t,mg "MOST_NUMBER"=some (.int 999999999999999 t)
 uq:∃ t,mg "MOST_PLACES"=some (.int 512 t)
 jl:∃ t,mg "MOST_SIDE"=some (.int 64 t)
 z_all:mg "all"=none
 z_bool:mg "bool"=none
 z_int:mg "int"=none
 z_isinstance:mg "isinstance"=none
 z_len:mg "len"=none
 z_list:mg "list"=none
 z_max:mg "max"=none
 z_min:mg "min"=none
 z_range:mg "range"=none
 z_repr:mg "repr"=none
 z_reversed:mg "reversed"=none
 z_str:mg "str"=none
 z_tuple:mg "tuple"=none
 z_zip:mg "zip"=none
 ty:iD K
abbrev il (ns:List Int):D:=.lst (ns.map .int)
def Fig (ns:List Int):Prop:=∀ n∈ns,-1000000000000000 < n∧n < 1000000000000000
theorem snoc {f:Nat→D} {k:Nat} {d:D} (h:d=f k):(List.range k).map f++[d]=(List.range (k + 1)).map f:=by
 rw[List.range_succ,List.map_append,h];rfl
theorem ints_get {ns:List Int} {k:Nat} {d:D} (h:(ns.map D.int)[k]?=some d):k < ns.length∧d=.int (ns.getD k 0):=by
 have lt:k < ns.length:=by have:=(List.getElem?_eq_some_iff.mp h).1;simpa using this
 rw[List.getElem?_map,List.getElem?_eq_getElem lt] at h
 cases h
 exact⟨lt,by simp [List.getD,lt]⟩
theorem pb {f:Nat→D} {k n:Nat} {d:D} (h:((List.range n).map f)[k]?=some d):k < n∧d=f k:=by
 have lt:k < n:=by have:=(List.getElem?_eq_some_iff.mp h).1;simpa using this
 rw[List.getElem?_map,List.getElem?_range lt] at h
 cases h
 exact⟨lt,rfl⟩
theorem Gy {ns:List Int} (f:Fig ns) {k:Nat} (h:k < ns.length):-1000000000000000 < ns.getD k 0∧ns.getD k 0 < 1000000000000000:=by
 have:ns.getD k 0=ns[k]:=by simp [List.getD,h]
 rw[this];exact f _ (List.getElem_mem h)
theorem small {n:Nat} (h:n≤1000):n < sizeLine:=by rw[sizeLine_eq];omega
theorem lF (f:Nat→Int) (n:Nat):(List.range n).map (fun j=>D.int (f j))=((List.range n).map f).map D.int:=by rw[List.map_map];rfl
theorem vS {α β:Type} (f:α→β) (xs:List α) (lo hi st:Option Int):pk (xs.map f) lo hi st=(pk xs lo hi st).map f:=by
 unfold pk
 rw[List.length_map,List.map_filterMap]
 congr 1
 funext x
 rw[List.getElem?_map]
theorem pk0 (ns:List Int):pk (ns.map D.int) (some 0) none (some 2)=(List.range ((ns.length + 1) / 2)).map fun k=>D.int (ns.getD (2 * k) 0):=by
 have h:=J_ ns
 have e:lJ (ns.map V.int) (some 0) none (some 2)=(pk ns (some 0) none (some 2)).map V.int:=vS V.int ns _ _ _
 rw[e,show (List.range ((ns.length + 1) / 2)).map (fun k=>V.int (ns.getD (2 * k) 0))=((List.range ((ns.length + 1) / 2)).map fun k=>ns.getD (2 * k) 0).map V.int by rw[List.map_map];rfl] at h
 have inj:∀ {a b:List Int},a.map V.int=b.map V.int→a=b:=fun {a b} h=>List.map_inj_right (fun _ _ q=>by cases q;rfl) |>.mp h
 rw[vS,inj h,List.map_map];rfl
theorem pk1 (ns:List Int):pk (ns.map D.int) (some 1) none (some 2)=(List.range (ns.length / 2)).map fun k=>D.int (ns.getD (2 * k + 1) 0):=by
 have h:=J9 ns
 have e:lJ (ns.map V.int) (some 1) none (some 2)=(pk ns (some 1) none (some 2)).map V.int:=vS V.int ns _ _ _
 rw[e,show (List.range (ns.length / 2)).map (fun k=>V.int (ns.getD (2 * k + 1) 0))=((List.range (ns.length / 2)).map fun k=>ns.getD (2 * k + 1) 0).map V.int by rw[List.map_map];rfl] at h
 have inj:∀ {a b:List Int},a.map V.int=b.map V.int→a=b:=fun {a b} h=>List.map_inj_right (fun _ _ q=>by cases q;rfl) |>.mp h
 rw[vS,inj h,List.map_map];rfl
def lM (ns:List Int):List D:=(List.range (ns.length / 2)).map fun j=>.tup [.int (ns.getD (2 * j) 0),.int (ns.getD (2 * j + 1) 0)]
theorem Bf (ns:List Int):ir ((List.range ((ns.length + 1) / 2)).map fun k=>D.int (ns.getD (2 * k) 0)) ((List.range (ns.length / 2)).map fun k=>D.int (ns.getD (2 * k + 1) 0))=lM ns:=by
 refine List.ext_getElem? fun i=>?_
 unfold ir lM
 by_cases h:i < ns.length / 2
 ·rw[List.getElem?_map,List.getElem?_map,List.getElem?_range h]
  have:((List.map (fun k=>D.int (ns.getD (2 * k) 0)) (List.range ((ns.length + 1) / 2))).zip (List.map (fun k=>D.int (ns.getD (2 * k + 1) 0)) (List.range (ns.length / 2))))[i]?=some (D.int (ns.getD (2 * i) 0),D.int (ns.getD (2 * i + 1) 0)):=by
   rw[List.getElem?_zip_eq_some]
   exact⟨by rw[List.getElem?_map,List.getElem?_range (by omega)];rfl,by rw[List.getElem?_map,List.getElem?_range h];rfl⟩
  rw[this];rfl
 ·rw[List.getElem?_eq_none (by simp;omega),List.getElem?_eq_none (by simp;omega)]
section
variable {P:Program} {w:World} {K:PySem.W.Frag} {mg:Str→Option Value} {base:Heap} {a:Ad}
def whD (d:D) (lo hi:Int):Bool:=match d with
 | .int i=>decide (lo≤i) && decide (i≤hi)
 | _=>false
def E2:S3:=fun Γ Q=>∃ (d:D) (lo hi:Int),Γ=[some (.fz d),some (.fz (.int lo)),some (.fz (.int hi))]∧knD d=true∧Q (.fz (.bl (whD d lo hi))) Γ
theorem fF (T:Txt K mg a):aT P w K mg base CX0 1 a.og a.md ["thing","low","high"] (sp3 K 3 E2):=by
 refine ok3 T.fB xx (hbody:=fun cdv A outer s H E hr=>⟨_,_,(aj (br (P3W.pt (fQ (cb (ax (HA T.ty) (by rfl) T.z_isinstance (by decide +kernel) (aa (bv 0) (aa (P3.opd (qy (n:="bool") (by rfl) T.z_bool (by decide +kernel))) af)))) (eM (cg (cb (ax (Hz T.ty) (by rfl) T.z_isinstance (by decide +kernel) (aa (bv 0) (aa (P3.opd (qy (n:="int") (by rfl) T.z_int (by decide +kernel))) af)))))))) (ak (aw fE)) a_)
   (ak (aw (Dn qG qG (bv 1) (bv 0) (bv 2))))),fun Γa Q h hl=>?_⟩)
 obtain⟨d,lo,hi,rfl,hk,q⟩:=h
 cases d <;> (try cases hk) <;> walk_at "y3" <;> (try exact q)
 rename_i i
 by_cases h:lo≤i
 ·simp only[qa,h,decide_true]
  simpa only[whD,h,decide_true,Bool.true_and] using q
 ·simp only[qa,h,decide_false]
  simpa only[whD,h,decide_false,Bool.false_and] using q
def Dx:S3:=fun Γ Q=>∃ (d:D),Γ=[some (.fz d)]∧knD d=true∧Q (.fz (.bl (whD d (-999999999999999) 999999999999999))) Γ
theorem v3 (T:Txt K mg a):aT P w K mg base CX0 2 a.mj a.ki ["thing"] (sp3 K 1 Dx):=by
 refine ok3 T.qQ vC (hbody:=fun cdv A outer s H E hr=>⟨_,_,(ak (aw (ay (by rfl) (fF T) (hr.mono (by decide)) (by rfl) T.gz T.fB.kp T.gI (aa (P3.opd (p3v 0)) (aa (P3.opd (fR (P3.opd (ka (i:=999999999999999) (by rfl) T.nG)))) (aa (P3.opd (ka (i:=999999999999999) (by rfl) T.nG)) af)))))),fun Γa Q h hl=>?_⟩)
 obtain⟨d,rfl,hk,q⟩:=h
 walk_at "y3"
 exact⟨d,_,_,rfl,hk,q⟩
theorem E4 {n:Int} (h:-1000000000000000 < n∧n < 1000000000000000):whD (.int n) (-999999999999999) 999999999999999=true:=by
 simp only[whD,Bool.and_eq_true,decide_eq_true_eq];omega
def JU:S3:=fun Γ Q=>∃ (ns:List Int) (least:Int),Γ=[some (.fz (il ns)),some (.fz (.int least))]∧Fig ns∧ns.length≤64∧least≤(ns.length:Int)∧Q (.fz (.bl true)) Γ
theorem pU (T:Txt K mg a):aT P w K mg base CX0 3 a.tm a.p9 ["thing","least"] (sp3 K 2 JU):=by
 refine ok3 T.pG Bq (hbody:=fun cdv A outer s H E hr=>⟨_,_,(aj (br (P3W.pt (fQ (cg (cb (ax (K2 T.ty) (by rfl) T.z_isinstance (by decide +kernel) (aa (bv 0) (aa (P3.opd (qy (n:="list") (by rfl) T.z_list (by decide +kernel))) af))))) (eM (cg (BD qG qG (bv 1) (P3.opd (ax (dm (by rfl)) (by rfl) T.z_len (by decide +kernel) (aa (bv 0) af))) (P3.opd (ka (i:=64) (by rfl) T.jl))))))) (ak (aw fE)) a_)
   (ak (aw (ax (K3 (by rfl) rfl) (by rfl) T.z_all (by decide +kernel) (aa (P3.opd (mV rfl (gP (by rfl) (p3v 0)) pw (fun _ _ _ _ _=>(cE (i:=0) pw.nd rfl (Or.inl rfl))) (fun _ _ _ _ _=>(ay (by rfl) (v3 T) (hr.mono (by decide)) (by rfl) T.x_ T.qQ.kp T.yy (aa (P3.opd (p3v 0)) af))))) af))))),fun Γa Q h hl=>?_⟩)
 obtain⟨ns,least,rfl,hf,h1,h2,q⟩:=h
 walk_at "y3"
 rw[List.length_map,show qa least (ns.length:Int)=true by simp only[qa,h2,decide_true],show qa (ns.length:Int) 64=true by simp only[qa,decide_eq_true_eq];omega]
 walk_at "y3"
 refine⟨small (by rw[List.length_map];omega),ff (fun k ys Γc=>ys=(List.range k).map (fun _=>D.bl true)∧∃ s,Γc=[fo s]) ⟨rfl,none,rfl⟩ ?_ ?_⟩
 ·rintro k d ys Γc hd hk ⟨rfl,s,rfl⟩
  obtain⟨lt,rfl⟩:=ints_get hd
  walk_at "y3"
  refine⟨_,rfl,rfl,?_⟩
  rw[E4 (Gy hf lt)]
  walk_at "y3"
  exact⟨snoc rfl,some _,rfl⟩
 ·rintro ys Γc hk ⟨rfl,s,rfl⟩
  walk_at "y3"
  refine⟨(List.range ns.length).map fun _=>true,by rw[List.length_map,List.map_map];rfl,?_⟩
  have:((List.range ns.length).map fun _=>true).all id=true:=by simp
  rw[this];exact q
def KG (f:Int→Int→Int):S3:=fun Γ Q=>∃ (d:D) (x y:Int),Γ=[some (.fz d),some (.fz (.int x)),some (.fz (.int y))]∧Q (.fz (.int (f x y))) Γ
def Gu (f:Int→Int):S3:=fun Γ Q=>∃ (d:D) (x:Int),Γ=[some (.fz d),some (.fz (.int x))]∧Q (.fz (.int (f x))) Γ
theorem m6 (T:Txt K mg a):aT P w K mg base CX0 1 a.dM a.eV ["self","first","second"] (sp3 K 3 (KG fun x y=>x + y)):=by
 refine ok3 T.oB m3 (hbody:=fun cdv A outer s H E hr=>⟨_,_,(ak (aw (aJ (bv 1) (bv 2)))),fun Γa Q h hl=>?_⟩)
 obtain⟨d,x,y,rfl,q⟩:=h
 walk_at "y3"
 exact q
theorem m7 (T:Txt K mg a):aT P w K mg base CX0 1 a.dN a.eX ["self","number"] (sp3 K 2 (Gu fun x=>2 * x)):=by
 refine ok3 T.oC m4 (hbody:=fun cdv A outer s H E hr=>⟨_,_,(ak (aw (g0 (P3.opd ag) (bv 1)))),fun Γa Q h hl=>?_⟩)
 obtain⟨d,x,rfl,q⟩:=h
 walk_at "y3"
 exact⟨.inl ⟨by decide,by decide⟩,q⟩
theorem gu (T:Txt K mg a):aT P w K mg base CX0 1 a.dh a.d_ ["self","first","second"] (sp3 K 3 (KG fun x y=>(x + y) / 2)):=by
 refine ok3 T.mM kW (hbody:=fun cdv A outer s H E hr=>⟨_,_,(ak (aw (cI (P3.opd (aJ (bv 1) (bv 2))) (P3.opd ag)))),fun Γa Q h hl=>?_⟩)
 obtain⟨d,x,y,rfl,q⟩:=h
 walk_at "y3"
 exact⟨⟨by decide,by decide⟩,q⟩
theorem gv (T:Txt K mg a):aT P w K mg base CX0 1 a.dk a.ed ["self","number"] (sp3 K 2 (Gu fun x=>x)):=by
 refine ok3 T.mO kX (hbody:=fun cdv A outer s H E hr=>⟨_,_,(ak (aw (pR 1))),fun Γa Q h hl=>?_⟩)
 obtain⟨d,x,rfl,q⟩:=h
 walk_at "y3"
 exact q
def nrF (ns:List Int) (k:Int):Int:=ns.getD (fmin (fmax k 0) ((ns.length:Int) - 1)).toNat 0
def II:S3:=fun Γ Q=>∃ (ns:List Int) (k:Int),Γ=[some (.fz (il ns)),some (.fz (.int k))]∧1≤ns.length∧Q (.fz (.int (nrF ns k))) Γ
theorem oN (T:Txt K mg a):aT P w K mg base CX0 1 a.zU a.wM ["numbers","at"] (sp3 K 2 II):=by
 refine ok3 T.ql Fd (hbody:=fun cdv A outer s H E hr=>⟨_,_,(ak (aw (bz (by rfl) (bv 0) (P3.opd (ax (EF rfl) (by rfl) T.z_min (by decide +kernel) (aa (P3.opd (ax (EG rfl) (by rfl) T.z_max (by decide +kernel) (aa (bv 1) (aa (P3.opd ag) af)))) (aa (P3.opd (cG (P3.opd (ax (dm (by rfl)) (by rfl) T.z_len (by decide +kernel) (aa (bv 0) af))) (P3.opd ag))) af)))) (fun _ _=>rfl)))),fun Γa Q h hl=>?_⟩)
 obtain⟨ns,k,rfl,h1,q⟩:=h
 walk_at "y3"
 rw[List.length_map]
 exact dU.mpr ⟨_,A_ (by simp only[fmin,fmax];split <;> split <;> omega) (by simp only[fmin,fmax];split <;> split <;> omega),q⟩
def FN:S3:=fun Γ Q=>∃ (ns:List Int),Γ=[some (.fz (il ns))]∧ns.length≤64∧Q (.fr (.lst (lM ns))) Γ
theorem qz (T:Txt K mg a):aT P w K mg base CX0 1 a.oa a.ma ["row"] (sp3 K 1 FN):=by
 refine ok3 T.oA xw (hbody:=fun cdv A outer s H E hr=>⟨_,_,(ak (aw (zf rfl (by rfl) T.z_list (by rfl) T.z_zip (aa (P3.opd (mT (by rfl) (bv 0) (dQ (P3.opd ag)) gU (dQ (P3.opd ag)))) (aa (P3.opd (mT (by rfl) (bv 0) (dQ (P3.opd ag)) gU (dQ (P3.opd ag)))) af))))),fun Γa Q h hl=>?_⟩)
 obtain⟨ns,rfl,h1,q⟩:=h
 walk_at "y3"
 refine⟨by decide,by decide,?_,?_⟩
 ·rw[pk0,pk1];simp only[List.length_map,List.length_range,sizeLine_eq];omega
 ·rw[pk0,pk1,Bf];exact q
def rg (f:Nat→Int) (k:Nat):List Int:=(List.range k).map f
def sW (ns:List Int):List Int:=rg (fun j=>ns.getD (2 * j) 0 - ns.getD (2 * j + 1) 0) (ns.length / 2)
def Gh (f:List Int→List Int):S3:=fun Γ Q=>∃ (ns:List Int),Γ=[some (.fz (il ns))]∧ns.length≤64∧Q (.fr (il (f ns))) Γ
theorem sC (T:Txt K mg a):aT P w K mg base CX0 2 a.qd a.n_ ["row"] (sp3 K 1 (Gh sW)):=by
 refine ok3 T.qo y3 (hbody:=fun cdv A outer s H E hr=>⟨_,_,(ak (aw (mV rfl (gP (by rfl) (ay (by rfl) (qz T) (hr.mono (by decide)) (by rfl) T.sQ T.oA.kp T.tM (aa (P3.opd (p3v 0)) af))) jH (fun _ _ _ _ _=>(hU (is:=[0,1]) (by rfl) (av (aA (i:=0) jH.nd rfl (Or.inl rfl)) (av (aA (i:=1) jH.nd rfl (Or.inl rfl)) b_)) rfl)) (fun _ _ _ _ _=>(cG (bv 0) (bv 1)))))),fun Γa Q h hl=>?_⟩)
 obtain⟨ns,rfl,h1,q⟩:=h
 walk_at "y3"
 refine⟨ns,rfl,h1,?_⟩
 walk_at "y3"
 refine⟨small (by simp only[lM,List.length_map,List.length_range];omega),ff (fun k ys Γc=>ys=(List.range k).map (fun j=>D.int (ns.getD (2 * j) 0 - ns.getD (2 * j + 1) 0))∧∃ s s',Γc=[fo s,fo s']) ⟨rfl,none,none,rfl⟩ ?_ ?_⟩
 ·rintro k d ys Γc hd hk ⟨rfl,s,s',rfl⟩
  obtain⟨lt,rfl⟩:=pb hd
  walk_at "y3"
  exact⟨snoc rfl,some _,some _,rfl⟩
 ·rintro ys Γc hk ⟨rfl,s,s',rfl⟩
  walk_at "y3"
  simp only[lM,List.length_map,List.length_range]
  rw[lF]
  exact q
inductive Rl where
 | sum | half | guess | lean
def Rl.cls (a:Ad):Rl→Addr
 | .sum=>a.bj | .half=>a.aH | .guess=>a.aC | .lean=>a.aB
abbrev Rl.ob (a:Ad) (R:Rl):D:=.ins (R.cls a) [] []
def lC (p:Int→Int→Int) (l:Int→Int) (ns:List Int):List Int:=rg (fun j=>p (ns.getD (2 * j) 0) (ns.getD (2 * j + 1) 0)) (ns.length / 2)++(if ns.length % 2=1 then [l (ns.getD (ns.length - 1) 0)] else [])
def Rl.pair:Rl→Int→Int→Int
 | .sum=>fun x y=>x + y | _=>fun x y=>(x + y) / 2
def Rl.yf:Rl→Int→Int
 | .sum=>fun x=>2 * x | _=>fun x=>x
def HK (a:Ad):S3:=fun Γ Q=>∃ (R:Rl) (ns:List Int),Γ=[some (.fz (R.ob a)),some (.fz (il ns))]∧R≠.guess∧2≤ns.length∧ns.length≤64∧Q (.fr (il (lC R.pair R.yf ns))) Γ
theorem d7 (f:Nat→Int) (k:Nat):(rg f k).length=k:=by unfold rg;simp
theorem g6 (T:Txt K mg a):aT P w K mg base CX0 2 a.dG a.hW ["self","row"] (sp3 K 2 (HK a)):=by
 refine ok3 T.tW kL (hbody:=fun cdv A outer s H E hr=>⟨_,_,(aj (fm (i:=2) kL.nd rfl rfl rfl (gP (by rfl) (ay (by rfl) (qz T) (hr.mono (by decide)) (by rfl) T.sQ T.oA.kp T.tM (aa (P3.opd (p3v 1)) af))) fu (fun _ _ _ _ _=>(hU (is:=[0,1]) (by rfl) (av (aA (i:=0) fu.nd rfl (Or.inl rfl)) (av (aA (i:=1) fu.nd rfl (Or.inl rfl)) b_)) rfl)) (fun _ _ _ _ _=>(P3.or (aS (by rfl) (bv 2) T.fj T.m8 (m6 T) (hr.mono (by decide)) T.oy (aa (P3.opd (p3v 0)) (aa (P3.opd (p3v 1)) af))) (P3.or (aS (by rfl) (bv 2) T.df T.lq (gu T) (hr.mono (by decide)) T.gX (aa (P3.opd (p3v 0)) (aa (P3.opd (p3v 1)) af))) (aS (by rfl) (bv 2) T.cM T.kc (gu T) (hr.mono (by decide)) T.gX (aa (P3.opd (p3v 0)) (aa (P3.opd (p3v 1)) af)))))))
   (aj (br (aI tJ (P3.opd (ax (dm (by rfl)) (by rfl) T.z_len (by decide +kernel) (aa (bv 1) af))) (P3.opd (g0 (P3.opd ag) (P3.opd (ax (dm (by rfl)) (by rfl) T.z_len (by decide +kernel) (aa (bv 2) af))))) (aR _)) (ak (bN (cJ 2 (by rfl) (bv 2) (P3.or (aS (by rfl) (bv 0) T.fj T.m9 (m7 T) (hr.mono (by decide)) T.oz (aa (P3.opd (bz (by rfl) (bv 1) (P3.opd (fR (P3.opd ag))) (fun _ _=>rfl))) af)) (P3.or (aS (by rfl) (bv 0) T.df T.lr (gv T) (hr.mono (by decide)) T.gY (aa (P3.opd (bz (by rfl) (bv 1) (P3.opd (fR (P3.opd ag))) (fun _ _=>rfl))) af)) (aS (by rfl) (bv 0) T.cM T.kd (gv T) (hr.mono (by decide)) T.gY (aa (P3.opd (bz (by rfl) (bv 1) (P3.opd (fR (P3.opd ag))) (fun _ _=>rfl))) af))))))) a_)
   (ak (aw (pR 2))))),fun Γa Q h hl=>?_⟩)
 obtain⟨R,ns,rfl,hR,h2,h1,q⟩:=h
 walk_at "y3"
 refine⟨ns,rfl,h1,?_⟩
 walk_at "y3"
 refine⟨small (by simp only[lM,List.length_map,List.length_range];omega),ff (fun k ys Γc=>ys=(List.range k).map (fun j=>D.int (R.pair (ns.getD (2 * j) 0) (ns.getD (2 * j + 1) 0)))∧∃ s s',Γc=[fo s,fo s',some (.fz (R.ob a))]) ⟨rfl,none,none,rfl⟩ ?_ ?_⟩
 ·rintro k d ys Γc hd hk ⟨rfl,s,s',rfl⟩
  obtain⟨lt,rfl⟩:=pb hd
  walk_at "y3"
  cases R with
  | guess=>exact absurd rfl hR
  | sum=>
   refine .inl ?_
   walk_at "y3"
   refine⟨rfl,_,_,_,rfl,?_⟩
   walk_at "y3"
   exact⟨snoc rfl,some _,some _,rfl⟩
  | half=>
   refine .inr (.inl ?_)
   walk_at "y3"
   refine⟨rfl,_,_,_,rfl,?_⟩
   walk_at "y3"
   exact⟨snoc rfl,some _,some _,rfl⟩
  | lean=>
   refine .inr (.inr ?_)
   walk_at "y3"
   refine⟨rfl,_,_,_,rfl,?_⟩
   walk_at "y3"
   exact⟨snoc rfl,some _,some _,rfl⟩
 ·rintro ys Γc hk ⟨rfl,s,s',rfl⟩
  have hp:(lM ns).length=ns.length / 2:=by simp [lM]
  rw[hp,lF]
  walk_at "y3"
  refine⟨.inl ⟨by decide,by decide⟩,?_⟩
  simp only[List.length_map,List.length_range]
  by_cases odd:ns.length % 2=1
  ·have e1:pq (ns.length:Int) (2 * ((ns.length / 2:Nat):Int))=true:=by simp only[pq,decide_eq_true_eq];omega
   have e2:lC R.pair R.yf ns=((List.range (ns.length / 2)).map fun j=>R.pair (ns.getD (2 * j) 0) (ns.getD (2 * j + 1) 0))++[R.yf (ns.getD (ns.length - 1) 0)]:=by
    unfold lC;rw[if_pos odd];rfl
   rw[e2,il,List.map_append] at q
   rw[e1]
   walk_at "y3"
   cases R with
   | guess=>exact absurd rfl hR
   | sum=>
    refine .inl ⟨rfl,dU.mpr ⟨_,i6 (by omega),?_⟩⟩
    walk_at "y3"
    refine⟨_,_,rfl,?_⟩
    walk_at "y3"
    exact⟨small (by simp only[List.length_map,List.length_range];omega),q⟩
   | half=>
    refine .inr (.inl ⟨rfl,dU.mpr ⟨_,i6 (by omega),?_⟩⟩)
    walk_at "y3"
    refine⟨_,_,rfl,?_⟩
    walk_at "y3"
    exact⟨small (by simp only[List.length_map,List.length_range];omega),q⟩
   | lean=>
    refine .inr (.inr ⟨rfl,dU.mpr ⟨_,i6 (by omega),?_⟩⟩)
    walk_at "y3"
    refine⟨_,_,rfl,?_⟩
    walk_at "y3"
    exact⟨small (by simp only[List.length_map,List.length_range];omega),q⟩
  ·have e1:pq (ns.length:Int) (2 * ((ns.length / 2:Nat):Int))=false:=by simp only[pq,decide_eq_false_iff_not];omega
   have e2:lC R.pair R.yf ns=((List.range (ns.length / 2)).map fun j=>R.pair (ns.getD (2 * j) 0) (ns.getD (2 * j + 1) 0)):=by
    unfold lC;rw[if_neg odd,List.append_nil];rfl
   rw[e2] at q
   rw[e1]
   exact q
def B5 (F:List Int) (ns:List Int):List Int:=rg (fun j=>ns.getD (2 * j + 1) 0 - (F.getD j 0 + nrF F ((j:Int) + 1)) / 2) (ns.length / 2)
def fsF (ns:List Int):List Int:=rg (fun j=>ns.getD (2 * j) 0) ((ns.length + 1) / 2)
def g9 (d:List Int) (j:Nat):Int:=(nrF d ((j:Int) - 1) + nrF d (j:Int) + 2) / 4
def lX (s:List Int) (j:Nat):Int:=(nrF s ((j:Int) - 1) - nrF s ((j:Int) + 1) + 2) / 4
def Rl.dif (R:Rl) (ns:List Int):List Int:=match R with
 | .sum=>sW ns | .half=>sW ns
 | .guess=>B5 (fsF ns) ns
 | .lean=>rg (fun j=>(sW ns).getD j 0 - lX (lC Rl.lean.pair Rl.lean.yf ns) j) (ns.length / 2)
def Rl.sums (R:Rl) (ns:List Int):List Int:=match R with
 | .guess=>rg (fun j=>(fsF ns).getD j 0 + g9 (B5 (fsF ns) ns) j) ((ns.length + 1) / 2)
 | R=>lC R.pair R.yf ns
theorem fh (i:Int) (n:Nat):(rng i n).length=n:=by unfold rng;simp
theorem vM {n k:Nat} {d:D} (h:(rng 0 n)[k]?=some d):k < n∧d=.int (k:Int):=by
 unfold rng at h
 obtain⟨h1,h2⟩:=pb h
 exact⟨h1,by rw[h2];simp⟩
def kf (F:List Int) (j:Nat):Int:=(F.getD j 0 + nrF F ((j:Int) + 1)) / 2
def zt (f:List Int→Nat→Int) (ok:Nat→Nat→Prop):S3:=fun Γ Q=>∃ (F:List Int) (m:Nat),Γ=[some (.fz (il F)),some (.fz (.int m))]∧1≤F.length∧ok m F.length∧m≤64∧Q (.fr (il (rg (f F) m))) Γ
theorem sy (T:Txt K mg a):aT P w K mg base CX0 2 a.qc a.n9 ["firsts","many"] (sp3 K 2 (zt kf (·≤·))):=by
 refine ok3 T.qm y0 (hbody:=fun cdv A outer s H E hr=>⟨_,_,(ak (aw (mV rfl (eN (by rfl) T.z_range (ae (p3v 1) aq)) nH (fun _ _ _ _ _=>(cE (i:=0) nH.nd rfl (Or.inl rfl))) (fun _ _ _ _ _=>(cI (P3.opd (aJ (P3.opd (bz (by rfl) (bv 1) (bv 0) (fun _ _=>rfl))) (P3.opd (ay (by rfl) (oN T) (hr.mono (by decide)) (by rfl) T.sR T.ql.kp T.tN (aa (P3.opd (p3v 1)) (aa (P3.opd (aJ (bv 0) (P3.opd ag))) af)))))) (P3.opd ag)))))),fun Γa Q h hl=>?_⟩)
 obtain⟨F,m,rfl,h1,h2,h3,q⟩:=h
 walk_at "y3"
 refine⟨by omega,by omega,small (by rw[fh];omega),ff (fun k ys Γc=>ys=(List.range k).map (fun j=>D.int (kf F j))∧∃ s,Γc=[fo s,some (.fz (il F))]) ⟨rfl,none,rfl⟩ ?_ ?_⟩
 ·rintro k d ys Γc hd hk ⟨rfl,s,rfl⟩
  obtain⟨lt,rfl⟩:=vM hd
  walk_at "y3"
  refine dU.mpr ⟨_,A_ (by omega) (by omega),?_⟩
  walk_at "y3"
  refine⟨_,_,rfl,h1,?_⟩
  walk_at "y3"
  exact⟨⟨by decide,by decide⟩,snoc (by rw[Int.toNat_natCast];rfl),some _,rfl⟩
 ·rintro ys Γc hk ⟨rfl,s,rfl⟩
  walk_at "y3"
  rw[fh,Int.toNat_natCast,lF]
  exact q
theorem xV (T:Txt K mg a):aT P w K mg base CX0 2 a.wQ a.sZ ["differences","many"] (sp3 K 2 (zt g9 fun _ _=>True)):=by
 refine ok3 T.xk CG (hbody:=fun cdv A outer s H E hr=>⟨_,_,(ak (aw (mV rfl (eN (by rfl) T.z_range (ae (p3v 1) aq)) qI (fun _ _ _ _ _=>(cE (i:=0) qI.nd rfl (Or.inl rfl))) (fun _ _ _ _ _=>(cI (P3.opd (aJ (P3.opd (aJ (P3.opd (ay (by rfl) (oN T) (hr.mono (by decide)) (by rfl) T.sR T.ql.kp T.tN (aa (P3.opd (p3v 1)) (aa (P3.opd (cG (bv 0) (P3.opd ag))) af)))) (P3.opd (ay (by rfl) (oN T) (hr.mono (by decide)) (by rfl) T.sR T.ql.kp T.tN (aa (P3.opd (p3v 1)) (aa (P3.opd (p3v 0)) af)))))) (P3.opd ag))) (P3.opd ag)))))),fun Γa Q h hl=>?_⟩)
 obtain⟨F,m,rfl,h1,h2,h3,q⟩:=h
 walk_at "y3"
 refine⟨by omega,by omega,small (by rw[fh];omega),ff (fun k ys Γc=>ys=(List.range k).map (fun j=>D.int (g9 F j))∧∃ s,Γc=[fo s,some (.fz (il F))]) ⟨rfl,none,rfl⟩ ?_ ?_⟩
 ·rintro k d ys Γc hd hk ⟨rfl,s,rfl⟩
  obtain⟨lt,rfl⟩:=vM hd
  walk_at "y3"
  refine⟨_,_,rfl,h1,?_⟩
  walk_at "y3"
  refine⟨_,_,rfl,h1,?_⟩
  walk_at "y3"
  exact⟨⟨by decide,by decide⟩,snoc rfl,some _,rfl⟩
 ·rintro ys Γc hk ⟨rfl,s,rfl⟩
  walk_at "y3"
  rw[fh,Int.toNat_natCast,lF]
  exact q
theorem xW (T:Txt K mg a):aT P w K mg base CX0 2 a.wR a.s_ ["sums","many"] (sp3 K 2 (zt lX fun _ _=>True)):=by
 refine ok3 T.xl CH (hbody:=fun cdv A outer s H E hr=>⟨_,_,(ak (aw (mV rfl (eN (by rfl) T.z_range (ae (p3v 1) aq)) qJ (fun _ _ _ _ _=>(cE (i:=0) qJ.nd rfl (Or.inl rfl))) (fun _ _ _ _ _=>(cI (P3.opd (aJ (P3.opd (cG (P3.opd (ay (by rfl) (oN T) (hr.mono (by decide)) (by rfl) T.sR T.ql.kp T.tN (aa (P3.opd (p3v 1)) (aa (P3.opd (cG (bv 0) (P3.opd ag))) af)))) (P3.opd (ay (by rfl) (oN T) (hr.mono (by decide)) (by rfl) T.sR T.ql.kp T.tN (aa (P3.opd (p3v 1)) (aa (P3.opd (aJ (bv 0) (P3.opd ag))) af)))))) (P3.opd ag))) (P3.opd ag)))))),fun Γa Q h hl=>?_⟩)
 obtain⟨F,m,rfl,h1,h2,h3,q⟩:=h
 walk_at "y3"
 refine⟨by omega,by omega,small (by rw[fh];omega),ff (fun k ys Γc=>ys=(List.range k).map (fun j=>D.int (lX F j))∧∃ s,Γc=[fo s,some (.fz (il F))]) ⟨rfl,none,rfl⟩ ?_ ?_⟩
 ·rintro k d ys Γc hd hk ⟨rfl,s,rfl⟩
  obtain⟨lt,rfl⟩:=vM hd
  walk_at "y3"
  refine⟨_,_,rfl,h1,?_⟩
  walk_at "y3"
  refine⟨_,_,rfl,h1,?_⟩
  walk_at "y3"
  exact⟨⟨by decide,by decide⟩,snoc rfl,some _,rfl⟩
 ·rintro ys Γc hk ⟨rfl,s,rfl⟩
  walk_at "y3"
  rw[fh,Int.toNat_natCast,lF]
  exact q
def seF (ns:List Int):List Int:=rg (fun j=>ns.getD (2 * j + 1) 0) (ns.length / 2)
theorem Lw (ns:List Int):pk (ns.map D.int) (some 0) none (some 2)=(fsF ns).map D.int:=by rw[pk0];unfold fsF rg;rw[List.map_map];rfl
theorem Lv (ns:List Int):pk (ns.map D.int) (some 1) none (some 2)=(seF ns).map D.int:=by rw[pk1];unfold seF rg;rw[List.map_map];rfl
theorem wK (ns:List Int):(fsF ns).length=(ns.length + 1) / 2:=d7 _ _
theorem yY (ns:List Int):(seF ns).length=ns.length / 2:=d7 _ _
theorem nP (f:Nat→Int) {j k:Nat} (h:j < k):(rg f k).getD j 0=f j:=by unfold rg;simp [List.getD,h]
theorem Cz {p:Int→Int→Int} {l:Int→Int} (ns:List Int) (h:2≤ns.length):1≤(lC p l ns).length:=by
 unfold lC;rw[List.length_append,d7];omega
theorem iq (xs ys:List Int):(ir (xs.map D.int) (ys.map D.int)).length=min xs.length ys.length:=by unfold ir;simp
theorem zip_get {xs ys:List Int} {k:Nat} {d:D} (h:(ir (xs.map D.int) (ys.map D.int))[k]?=some d):k < xs.length∧k < ys.length∧d=.tup [.int (xs.getD k 0),.int (ys.getD k 0)]:=by
 have lt:=(List.getElem?_eq_some_iff.mp h).1
 rw[iq] at lt
 have l1:k < xs.length:=by omega
 have l2:k < ys.length:=by omega
 unfold ir at h
 have:((xs.map D.int).zip (ys.map D.int))[k]?=some (D.int (xs.getD k 0),D.int (ys.getD k 0)):=by
  rw[List.getElem?_zip_eq_some]
  exact⟨by rw[List.getElem?_map,List.getElem?_eq_getElem l1];simp [List.getD,l1],by rw[List.getElem?_map,List.getElem?_eq_getElem l2];simp [List.getD,l2]⟩
 rw[List.getElem?_map,this] at h
 cases h
 exact⟨l1,l2,rfl⟩
def zd (a:Ad) (ok:Rl→Prop):S3:=fun Γ Q=>∃ (R:Rl) (ns:List Int),Γ=[some (.fz (R.ob a)),some (.fz (il ns))]∧ok R∧2≤ns.length∧ns.length≤64∧Q (.fz (.tup [il (R.sums ns),il (R.dif ns)])) Γ
theorem lO (T:Txt K mg a):aT P w K mg base CX0 3 a.gQ a.iQ ["self","row"] (sp3 K 2 (zd a fun R=>R=.sum∨R=.half)):=by
 refine ok3 T.uw rW (hbody:=fun cdv A outer s H E hr=>⟨_,_,(ak (aw (bL (ae (P3.or (aS (by rfl) (bv 0) T.fj T.q_ (g6 T) (hr.mono (by decide)) T.i5 (aa (P3.opd (p3v 1)) af)) (aS (by rfl) (bv 0) T.df T.oZ (g6 T) (hr.mono (by decide)) T.i5 (aa (P3.opd (p3v 1)) af))) (ae (ay (by rfl) (sC T) (hr.mono (by decide)) (by rfl) T.uS T.qo.kp T.vi (aa (P3.opd (p3v 1)) af)) aq))))),fun Γa Q h hl=>?_⟩)
 obtain⟨R,ns,rfl,hR,h2,h1,q⟩:=h
 walk_at "y3"
 rcases hR with rfl | rfl
 ·refine .inl ⟨rfl,.sum,ns,rfl,by simp,h2,h1,?_⟩
  walk_at "y3"
  refine⟨ns,rfl,h1,?_⟩
  walk_at "y3"
  exact⟨by rw[sizeLine_eq];omega,q⟩
 ·refine .inr ⟨rfl,.half,ns,rfl,by simp,h2,h1,?_⟩
  walk_at "y3"
  refine⟨ns,rfl,h1,?_⟩
  walk_at "y3"
  exact⟨by rw[sizeLine_eq];omega,q⟩
theorem oR (T:Txt K mg a):aT P w K mg base CX0 3 a.gE a.gc ["self","row"] (sp3 K 2 (zd a (·=.guess))):=by
 refine ok3 T.qu eh (hbody:=fun cdv A outer s H E hr=>⟨_,_,(aj (CI (i:=2) (j:=3) rfl eh.nd rfl rfl (by decide) (by rfl) (by rfl) (ae (mT (by rfl) (bv 1) (dQ (P3.opd ag)) gU (dQ (P3.opd ag))) (ae (mT (by rfl) (bv 1) (dQ (P3.opd ag)) gU (dQ (P3.opd ag))) aq)) (by rfl))
   (aj (fm (i:=4) eh.nd rfl rfl rfl (lY (by rfl) T.z_zip (ae (p3v 3) (ae (ay (by rfl) (sy T) (hr.mono (by decide)) (by rfl) T.uR T.qm.kp T.vh (aa (P3.opd (p3v 2)) (aa (P3.opd (ax (dm (by rfl)) (by rfl) T.z_len (by decide +kernel) (aa (bv 3) af))) af))) aq))) eI (fun _ _ _ _ _=>(hU (is:=[0,1]) (by rfl) (av (aA (i:=0) eI.nd rfl (Or.inl rfl)) (av (aA (i:=1) eI.nd rfl (Or.inl rfl)) b_)) rfl)) (fun _ _ _ _ _=>(cG (bv 0) (bv 1))))
   (aj (fm (i:=5) eh.nd rfl rfl rfl (lY (by rfl) T.z_zip (ae (p3v 2) (ae (ay (by rfl) (xV T) (hr.mono (by decide)) (by rfl) T.AF T.xk.kp T.A7 (aa (P3.opd (p3v 4)) (aa (P3.opd (ax (dm (by rfl)) (by rfl) T.z_len (by decide +kernel) (aa (bv 2) af))) af))) aq))) eJ (fun _ _ _ _ _=>(hU (is:=[0,1]) (by rfl) (av (aA (i:=0) eJ.nd rfl (Or.inl rfl)) (av (aA (i:=1) eJ.nd rfl (Or.inl rfl)) b_)) rfl)) (fun _ _ _ _ _=>(aJ (bv 0) (bv 1))))
   (ak (aw (bL (ae (p3v 5) (ae (p3v 4) aq)))))))),fun Γa Q h hl=>?_⟩)
 obtain⟨R,ns,rfl,hR,h2,h1,q⟩:=h
 walk_at "y3"
 subst hR
 refine⟨by decide,by decide,?_⟩
 rw[Lw,Lv]
 refine⟨fsF ns,ns.length / 2,by rw[List.length_map,yY],by rw[wK];omega,by rw[wK];omega,by omega,?_⟩
 walk_at "y3"
 have z1:(ir ((seF ns).map D.int) ((rg (kf (fsF ns)) (ns.length / 2)).map D.int)).length=ns.length / 2:=by rw[iq,yY,d7];omega
 refine⟨small (by rw[z1];omega),ff (fun k ys Γc=>ys=(List.range k).map (fun j=>D.int (ns.getD (2 * j + 1) 0 - kf (fsF ns) j))∧∃ s s',Γc=[fo s,fo s']) ⟨rfl,none,none,rfl⟩ ?_ ?_⟩
 ·rintro k d ys Γc hd hk ⟨rfl,s,s',rfl⟩
  obtain⟨l1,l2,rfl⟩:=zip_get hd
  rw[yY] at l1
  walk_at "y3"
  exact⟨snoc (by unfold seF;rw[nP _ l1,nP _ l1]),some _,some _,rfl⟩
 ·rintro ys Γc hk ⟨rfl,s,s',rfl⟩
  rw[z1,lF]
  have z2:(B5 (fsF ns) ns).length=ns.length / 2:=d7 _ _
  walk_at "y3"
  refine⟨B5 (fsF ns) ns,(ns.length + 1) / 2,by rw[List.length_map,wK];rfl,by omega,trivial,by omega,?_⟩
  walk_at "y3"
  have z3:(ir ((fsF ns).map D.int) ((rg (g9 (B5 (fsF ns) ns)) ((ns.length + 1) / 2)).map D.int)).length=(ns.length + 1) / 2:=by rw[iq,wK,d7];omega
  refine⟨small (by rw[z3];omega),ff (fun k ys Γc=>ys=(List.range k).map (fun j=>D.int ((fsF ns).getD j 0 + g9 (B5 (fsF ns) ns) j))∧∃ s s',Γc=[fo s,fo s']) ⟨rfl,none,none,rfl⟩ ?_ ?_⟩
  ·rintro k d ys Γc hd hk ⟨rfl,s,s',rfl⟩
   obtain⟨l1,l2,rfl⟩:=zip_get hd
   rw[d7] at l2
   walk_at "y3"
   exact⟨snoc (by rw[nP _ l2]),some _,some _,rfl⟩
  ·rintro ys Γc hk ⟨rfl,s,s',rfl⟩
   rw[z3,lF]
   walk_at "y3"
   exact⟨by rw[sizeLine_eq];omega,q⟩
theorem oP (T:Txt K mg a):aT P w K mg base CX0 3 a.gC a.fY ["self","row"] (sp3 K 2 (zd a (·=.lean))):=by
 refine ok3 T.qp jc (hbody:=fun cdv A outer s H E hr=>⟨_,_,(aj (CI (i:=2) (j:=3) rfl jc.nd rfl rfl (by decide) (by rfl) (by rfl) (ae (aS (by rfl) (bv 0) T.cM T.nV (g6 T) (hr.mono (by decide)) T.i5 (aa (P3.opd (p3v 1)) af)) (ae (ay (by rfl) (sC T) (hr.mono (by decide)) (by rfl) T.uS T.qo.kp T.vi (aa (P3.opd (p3v 1)) af)) aq)) (by rfl))
   (ak (aw (bL (ae (p3v 2) (ae (mV rfl (lY (by rfl) T.z_zip (ae (p3v 3) (ae (ay (by rfl) (xW T) (hr.mono (by decide)) (by rfl) T.AG T.xl.kp T.A8 (aa (P3.opd (p3v 2)) (aa (P3.opd (ax (dm (by rfl)) (by rfl) T.z_len (by decide +kernel) (aa (bv 3) af))) af))) aq))) eE (fun _ _ _ _ _=>(hU (is:=[0,1]) (by rfl) (av (aA (i:=0) eE.nd rfl (Or.inl rfl)) (av (aA (i:=1) eE.nd rfl (Or.inl rfl)) b_)) rfl)) (fun _ _ _ _ _=>(cG (bv 0) (bv 1)))) aq)))))),fun Γa Q h hl=>?_⟩)
 obtain⟨R,ns,rfl,hR,h2,h1,q⟩:=h
 walk_at "y3"
 subst hR
 refine⟨rfl,.lean,ns,rfl,by simp,h2,h1,?_⟩
 walk_at "y3"
 refine⟨ns,rfl,h1,?_⟩
 walk_at "y3"
 have hg:(sW ns).length=ns.length / 2:=d7 _ _
 refine⟨_,ns.length / 2,by rw[List.length_map,hg],Cz ns h2,trivial,by omega,?_⟩
 walk_at "y3"
 have z1:(ir ((sW ns).map D.int) ((rg (lX (lC Rl.lean.pair Rl.lean.yf ns)) (ns.length / 2)).map D.int)).length=ns.length / 2:=by rw[iq,hg,d7];omega
 refine⟨small (by rw[z1];omega),ff (fun k ys Γc=>ys=(List.range k).map (fun j=>D.int ((sW ns).getD j 0 - lX (lC Rl.lean.pair Rl.lean.yf ns) j))∧∃ s s',Γc=[fo s,fo s']) ⟨rfl,none,none,rfl⟩ ?_ ?_⟩
 ·rintro k d ys Γc hd hk ⟨rfl,s,s',rfl⟩
  obtain⟨l1,l2,rfl⟩:=zip_get hd
  rw[d7] at l2
  walk_at "y3"
  exact⟨snoc (by rw[nP _ l2]),some _,some _,rfl⟩
 ·rintro ys Γc hk ⟨rfl,s,s',rfl⟩
  rw[z1,lF]
  walk_at "y3"
  exact⟨by rw[sizeLine_eq];omega,q⟩
def ez (a:Ad):S3:=fun Γ Q=>∃ (R:Rl) (ns:List Int),Γ=[some (.fz (R.ob a)),some (.fz (il ns))]∧Fig ns∧2≤ns.length∧ns.length≤64∧Q (.fz (.tup [il (R.sums ns),il (R.dif ns)])) Γ
theorem fU (T:Txt K mg a):aT P w K mg base CX0 4 a.d6 a.iS ["self","row"] (sp3 K 2 (ez a)):=by
 refine ok3 T.uy rY (hbody:=fun cdv A outer s H E hr=>⟨_,_,(aj (br (cg (cb (ay (by rfl) (pU T) (hr.mono (by decide)) (by rfl) T.sS T.pG.kp T.tO (aa (P3.opd (p3v 1)) (aa (P3.opd ag) af))))) (ak gT) a_)
   (ak (aw (P3.or (aS (by rfl) (bv 0) T.fj T.sJ (lO T) (hr.mono (by decide)) T.nK (aa (P3.opd (p3v 1)) af)) (P3.or (aS (by rfl) (bv 0) T.df T.pY (lO T) (hr.mono (by decide)) T.nK (aa (P3.opd (p3v 1)) af)) (P3.or (aS (by rfl) (bv 0) T.gG T.o8 (oR T) (hr.mono (by decide)) T.qi (aa (P3.opd (p3v 1)) af)) (aS (by rfl) (bv 0) T.cM T.oW (oP T) (hr.mono (by decide)) T.qg (aa (P3.opd (p3v 1)) af)))))))),fun Γa Q h hl=>?_⟩)
 obtain⟨R,ns,rfl,hR,h2,h1,q⟩:=h
 walk_at "y3"
 refine⟨ns,2,rfl,hR,h1,by omega,?_⟩
 walk_at "y3"
 cases R with
 | sum=>exact .inl ⟨rfl,.sum,ns,rfl,.inl rfl,h2,h1,q⟩
 | half=>exact .inr (.inl ⟨rfl,.half,ns,rfl,.inr rfl,h2,h1,q⟩)
 | guess=>exact .inr (.inr (.inl ⟨rfl,.guess,ns,rfl,rfl,h2,h1,q⟩))
 | lean=>exact .inr (.inr (.inr ⟨rfl,.lean,ns,rfl,rfl,h2,h1,q⟩))
def Rl.num:Rl→Nat
 | .sum=>0 | .half=>1 | .guess=>2 | .lean=>3
def Rl.word:Rl→Str
 | .sum=>"sum" | .half=>"half" | .guess=>"guess" | .lean=>"lean"
def j5 (x:Str):S3:=fun Γ Q=>∃ d,Γ=[some (.fz d)]∧Q (.fz (.str x)) Γ
theorem oO (T:Txt K mg a):aT P w K mg base CX0 1 a.mw a.kr ["self"] (sp3 K 1 (j5 "sum")):=by
 refine ok3 T.yL vH (hbody:=fun cdv A outer s H E hr=>⟨_,_,(ak (aw bA)),fun Γa Q h hl=>?_⟩)
 obtain⟨d,rfl,q⟩:=h
 walk_at "y3"
 exact q
theorem lR (T:Txt K mg a):aT P w K mg base CX0 1 a.jG a.iV ["self"] (sp3 K 1 (j5 "half")):=by
 refine ok3 T.uB r9 (hbody:=fun cdv A outer s H E hr=>⟨_,_,(ak (aw bA)),fun Γa Q h hl=>?_⟩)
 obtain⟨d,rfl,q⟩:=h
 walk_at "y3"
 exact q
theorem kQ (T:Txt K mg a):aT P w K mg base CX0 1 a.iY a.h_ ["self"] (sp3 K 1 (j5 "guess")):=by
 refine ok3 T.t4 qZ (hbody:=fun cdv A outer s H E hr=>⟨_,_,(ak (aw bA)),fun Γa Q h hl=>?_⟩)
 obtain⟨d,rfl,q⟩:=h
 walk_at "y3"
 exact q
theorem kP (T:Txt K mg a):aT P w K mg base CX0 1 a.iX a.h9 ["self"] (sp3 K 1 (j5 "lean")):=by
 refine ok3 T.tZ qY (hbody:=fun cdv A outer s H E hr=>⟨_,_,(ak (aw bA)),fun Γa Q h hl=>?_⟩)
 obtain⟨d,rfl,q⟩:=h
 walk_at "y3"
 exact q
def Ff (a:Ad):S3:=fun Γ Q=>Γ=[]∧Q (.fr (.lst [Rl.sum.ob a,Rl.half.ob a,Rl.guess.ob a,Rl.lean.ob a])) Γ
theorem v7 (T:Txt K mg a):aT P w K mg base CX0 1 a.mm a.kl [] (sp3 K 0 (Ff a)):=by
 refine ok3 T.qS vE (hbody:=fun cdv A outer s H E hr=>⟨_,_,(ak (aw (bR (ae (mU T.mk_Sums (by rfl) T.Gf) (ae (mU T.mk_Halves (by rfl) T.BQ) (ae (mU T.mk_Guessed (by rfl) T.zC) (ae (mU T.mk_Leaning (by rfl) T.zB) aq))))))),fun Γa Q h hl=>?_⟩)
 obtain⟨rfl,q⟩:=h
 walk_at "y3"
 exact⟨by rw[sizeLine_eq];omega,q⟩
def HU (a:Ad):S3:=fun Γ Q=>∃ (R:Rl),Γ=[some (.fz (.str R.word))]∧Q (.fz (R.ob a)) Γ
theorem zi (T:Txt K mg a):aT P w K mg base CX0 2 a.p_ a.n6 ["word"] (sp3 K 1 (HU a)):=by
 refine ok3 T.vm rV (hbody:=fun cdv A outer s H E hr=>⟨_,_,(aj (eS PassesOwn.never rfl (gP (by rfl) (Dp (by rfl) (v7 T) (hr.mono (by decide)) (by rfl) T.yb T.qS.kp T.yA)) (cE (i:=1) rV.nd rfl (Or.inl rfl))
   (ak (br (aI (gn (by rfl) hr) (P3.opd (P3.or (aE (by rfl) (bv 1) T.fj T.oU (oO T) (hr.mono (by decide)) T.qK) (P3.or (aE (by rfl) (bv 1) T.df T.lU (lR T) (hr.mono (by decide)) T.nN) (P3.or (aE (by rfl) (bv 1) T.gG T.kS (kQ T) (hr.mono (by decide)) T.mH) (aE (by rfl) (bv 1) T.cM T.kR (kP T) (hr.mono (by decide)) T.mG))))) (bv 0) (aR _)) (ak (aw (pR 1))) a_)))
   (ak gT)),fun Γa Q h hl=>?_⟩)
 obtain⟨R,rfl,q⟩:=h
 walk_at "y3"
 refine⟨rfl,?_⟩
 walk_at "y3"
 refine dF (fun k Γ=>k≤R.num∧∃ s,Γ=[some (.fz (.str R.word)),fo s]) ⟨Nat.zero_le _,none,rfl⟩ ?_ ?_
 ·rintro k d Γ hd ⟨hk,s,rfl⟩
  match k,hd with
  | 0,hd=>
   cases hd
   walk_at "y3"
   refine .inl ⟨rfl,_,rfl,?_⟩
   walk_at "y3"
   refine jo (fun e=>?_) (fun e=>?_)
   ·have hR:R=.sum:=by cases R <;> first | rfl | exact absurd e (by decide +kernel)
    subst hR
    walk_at "y3"
    exact q
   ·walk_at "y3"
    exact⟨by cases R <;> first | decide | exact absurd hk (by decide) | exact absurd e (by decide +kernel),some _,rfl⟩
  | 1,hd=>
   cases hd
   walk_at "y3"
   refine .inr (.inl ⟨rfl,_,rfl,?_⟩)
   walk_at "y3"
   refine jo (fun e=>?_) (fun e=>?_)
   ·have hR:R=.half:=by cases R <;> first | rfl | exact absurd e (by decide +kernel)
    subst hR
    walk_at "y3"
    exact q
   ·walk_at "y3"
    exact⟨by cases R <;> first | decide | exact absurd hk (by decide) | exact absurd e (by decide +kernel),some _,rfl⟩
  | 2,hd=>
   cases hd
   walk_at "y3"
   refine .inr (.inr (.inl ⟨rfl,_,rfl,?_⟩))
   walk_at "y3"
   refine jo (fun e=>?_) (fun e=>?_)
   ·have hR:R=.guess:=by cases R <;> first | rfl | exact absurd e (by decide +kernel)
    subst hR
    walk_at "y3"
    exact q
   ·walk_at "y3"
    exact⟨by cases R <;> first | decide | exact absurd hk (by decide) | exact absurd e (by decide +kernel),some _,rfl⟩
  | 3,hd=>
   cases hd
   walk_at "y3"
   refine .inr (.inr (.inr ⟨rfl,_,rfl,?_⟩))
   walk_at "y3"
   refine jo (fun e=>?_) (fun e=>?_)
   ·have hR:R=.lean:=by cases R <;> first | rfl | exact absurd e (by decide +kernel)
    subst hR
    walk_at "y3"
    exact q
   ·walk_at "y3"
    exact⟨by cases R <;> first | decide | exact absurd hk (by decide) | exact absurd e (by decide +kernel),some _,rfl⟩
 ·rintro Γ ⟨hk,_⟩
  cases R <;> exact absurd (show 4≤_ from hk) (by decide)
theorem lZ {i3:TI3} {g3:TG3} {b3:TS3} {D:E3} {Γ:G} {t1:Tag (i3,g3,b3)} {t2:Tag D}:Jk i3 g3 b3 D Γ t1 t2=(i3 Γ fun xs Γ1=>∃ Iv:Nat→G→Prop,Iv 0 Γ1∧(∀ k d Γ,xs[k]?=some d→Iv k Γ→g3 d Γ fun Γ'=>b3 { D with nx:=Iv (k + 1),ct:=Iv (k + 1),bk:=D.nx } Γ')∧∀ Γ,Iv xs.length Γ→D.nx Γ):=rfl
inductive Lt where
 | r | p | b
deriving DecidableEq
def Lt.c:Lt→Nat
 | .r=>114 | .p=>112 | .b=>98
def Lt.s (l:Lt):Str:=sgn l.c
theorem Lt.sr:Lt.s .r=("r":Str):=by decide +kernel
theorem Lt.sp:Lt.s .p=("p":Str):=by decide +kernel
theorem Lt.sb:Lt.s .b=("b":Str):=by decide +kernel
def wy (ls:List Lt):Str:=⟨(ls.map Lt.c).toArray⟩
theorem lx (ls:List Lt):signs (wy ls)=ls.map fun l=>D.str l.s:=by
 unfold signs wy
 rw[List.map_map]
 rfl
theorem yQ (ls:List Lt):asc (wy ls)=true:=by
 unfold asc wy
 rw[Array.all_eq_true_iff_forall_mem]
 intro x hx
 simp only[List.mem_toArray,List.mem_map] at hx
 obtain⟨l,_,rfl⟩:=hx
 cases l <;> decide
theorem b8 (ls:List Lt):(wy ls).length=ls.length:=by simp [Str.length,wy]
theorem Ae (ls:List Lt):(wy ls).cps.size=ls.length:=by simp [wy]
def nh (l:Lt) (h:Int):Int:=if l=.r then h else (h + 1) / 2
def nw (l:Lt) (w:Int):Int:=if l=.p then w else (w + 1) / 2
def gk (h w:Int):List Lt→List (Int×Int)
 | []=>[(h,w)]
 | l::ls=>(h,w)::gk (nh l h) (nw l w) ls
theorem fe (h w:Int):∀ ls:List Lt,(gk h w ls).length=ls.length + 1
 | []=>rfl
 | l::ls=>by rw[gk,List.length_cons,fe];rfl
def cD (c:Int×Int):D:=.tup [.int c.1,.int c.2]
def Can (l:Lt) (h w:Int):Prop:=(l≠.p→2≤w)∧(l≠.r→2≤h)
def Good (h w:Int):List Lt→Prop
 | []=>True
 | l::ls=>Can l h w∧Good (nh l h) (nw l w) ls
structure iE (h w:Int):Prop where
 h1:1≤h
 w1:1≤w
 h2:h≤64
 w2:w≤64
 m:h * w≤512
def cat (h w:Int) (ls:List Lt) (k:Nat):Int×Int:=(gk h w ls).getD k (0,0)
theorem w6 {h w:Int} {ls:List Lt} {k:Nat} (hk:k≤ls.length):(gk h w ls)[k]?=some (cat h w ls k):=by
 unfold cat
 have:k < (gk h w ls).length:=by rw[fe];omega
 rw[List.getD_eq_getElem?_getD,List.getElem?_eq_getElem this];rfl
theorem A0 {h w:Int} {ls:List Lt} {k:Nat} (hk:k≤ls.length):((gk h w ls).map cD)[k]?=some (cD (cat h w ls k)):=by rw[List.getElem?_map,w6 hk];rfl
theorem qF (h w:Int) (ls:List Lt):cat h w ls 0=(h,w):=by cases ls <;> rfl
theorem yr {h w:Int} {l:Lt} {ls:List Lt} {k:Nat}:cat h w (l::ls) (k + 1)=cat (nh l h) (nw l w) ls k:=rfl
theorem jO:∀ {ls:List Lt} {h w:Int} {k:Nat} {l:Lt},ls[k]?=some l→cat h w ls (k + 1)=(nh l (cat h w ls k).1,nw l (cat h w ls k).2)
 | [],_,_,k,l,e=>by simp at e
 | l0::ls,h,w,0,l,e=>by
  have:l0=l:=by simpa using e
  subst this
  rw[yr,qF,qF]
 | l0::ls,h,w,k + 1,l,e=>by
  rw[yr,yr]
  exact jO (by simpa using e)
theorem rJ:∀ {ls:List Lt} {h w:Int} {k:Nat} {l:Lt},Good h w ls→ls[k]?=some l→Can l (cat h w ls k).1 (cat h w ls k).2
 | [],_,_,k,l,_,e=>by simp at e
 | l0::ls,h,w,0,l,g,e=>by
  have:l0=l:=by simpa using e
  subst this
  rw[qF];exact g.1
 | l0::ls,h,w,k + 1,l,g,e=>by
  rw[yr]
  exact rJ g.2 (by simpa using e)
theorem A1 {l:Lt} {h w:Int} (c:Can l h w) (h1:1≤h) (w1:1≤w):1≤nh l h∧1≤nw l w∧nh l h≤h∧nw l w≤w:=by
 cases l <;> simp [nh,nw] <;> omega
theorem gm:∀ {ls:List Lt} {h w:Int} {k:Nat},Good h w ls→1≤h→1≤w→k≤ls.length→1≤(cat h w ls k).1∧1≤(cat h w ls k).2∧(cat h w ls k).1≤h∧(cat h w ls k).2≤w
 | ls,h,w,0,_,h1,w1,_=>by rw[qF];exact⟨h1,w1,Int.le_refl _,Int.le_refl _⟩
 | [],_,_,k + 1,_,_,_,hk=>by simp at hk
 | l::ls,h,w,k + 1,g,h1,w1,hk=>by
  rw[yr]
  obtain⟨a,b,c,d⟩:=A1 g.1 h1 w1
  obtain⟨a',b',c',d'⟩:=gm (k:=k) g.2 a b (by simpa using hk)
  exact⟨a',b',Int.le_trans c' c,Int.le_trans d' d⟩
theorem iC {h w:Int} {ls:List Lt} {k:Nat} (hk:k≤ls.length):atI ((gk h w ls).map cD) (k:Int)=some (cD (cat h w ls k)):=jX (by omega) (by rw[Int.toNat_natCast];exact A0 hk)
theorem rK {α:Type} {xs:List α} {d:α} (e:xs[xs.length - 1]?=some d):atI xs (-1)=some d:=by
 have lt:=(List.getElem?_eq_some_iff.mp e).1
 have e2:ixN xs.length (-1)=some (xs.length - 1):=by
  unfold ixN
  rw[if_neg (by decide),if_pos (by omega)]
  congr 1
  omega
 unfold L2.atI
 rw[e2];exact e
abbrev plD (a:Ad) (R:Rl) (h w:Int) (ls:List Lt):D:=.ins a.aW ["chosen","corners","letters"] [R.ob a,.tup ((gk h w ls).map cD),.str (wy ls)]
def K0:S3:=fun Γ Q=>∃ (l:Lt) (h w:Int),Γ=[some (.fz (.str l.s)),some (.fz (.int h)),some (.fz (.int w))]∧Can l h w∧Q (.fz (.bl true)) Γ
theorem Kx {l:Lt}:inV (V.str l.s) [V.str "r",V.str "b"]=!(l == .p):=by cases l <;> decide +kernel
theorem Ky {l:Lt}:inV (V.str l.s) [V.str "p",V.str "b"]=!(l == .r):=by cases l <;> decide +kernel
def Mn (neg:Bool) (x:D) (xs:List D):Bool:=if neg then !inV (toV x) (xs.map toV) else inV (toV x) (xs.map toV)
theorem Hh {l:Lt} {Γ:G} {Q:RV→G→Prop}:in3 false (.str l.s) (kt ["r","b"]) Γ Q=Q (.fz (.bl (!(l == .p)))) Γ:=by
 refine propext ⟨fun ⟨xs,h1,_,_,q⟩=>?_,fun q=>⟨_,rfl,rfl,rfl,?_⟩⟩
 ·have e:xs=[D.str "r",D.str "b"]:=(Option.some.inj h1).symm
  subst e
  have q:Q (.fz (.bl (inV (V.str l.s) [V.str "r",V.str "b"]))) Γ:=q
  rw[Kx] at q;exact q
 ·show Q (.fz (.bl (inV (V.str l.s) [V.str "r",V.str "b"]))) Γ
  rw[Kx];exact q
theorem Hi {l:Lt} {Γ:G} {Q:RV→G→Prop}:in3 false (.str l.s) (kt ["p","b"]) Γ Q=Q (.fz (.bl (!(l == .r)))) Γ:=by
 refine propext ⟨fun ⟨xs,h1,_,_,q⟩=>?_,fun q=>⟨_,rfl,rfl,rfl,?_⟩⟩
 ·have e:xs=[D.str "p",D.str "b"]:=(Option.some.inj h1).symm
  subst e
  have q:Q (.fz (.bl (inV (V.str l.s) [V.str "p",V.str "b"]))) Γ:=q
  rw[Ky] at q;exact q
 ·show Q (.fz (.bl (inV (V.str l.s) [V.str "p",V.str "b"]))) Γ
  rw[Ky];exact q
theorem EL {α β:Type} {f:α→β} {xs:List α} {i:Int} {c:β} (e:atI (xs.map f) i=some c):∃ l,atI xs i=some l∧c=f l:=by
 unfold L2.atI at e ⊢
 rw[List.length_map] at e
 cases q:ixN xs.length i with
 | none=>rw[q] at e;cases e
 | some j=>
  rw[q] at e
  have e:(xs.map f)[j]?=some c:=e
  rw[List.getElem?_map] at e
  cases z:xs[j]? with
  | none=>rw[z] at e;cases e
  | some l=>rw[z] at e;cases e;exact⟨l,z,rfl⟩
def HE (ls:List Lt) (i:Int) (k:Lt→Prop) (_:Tag k):Prop:=(wy ls).length≤sizeLine∧∃ l,atI ls i=some l∧k l
theorem Hg {ls:List Lt} {i:Int} {Γ:G} {Q:RV→G→Prop}:ix3 (.str (wy ls)) (.int i) Γ Q=HE ls i (fun l=>Q (.fz (.str l.s)) Γ) ⟨⟩:=by
 refine propext ⟨fun ⟨h1,c,h2,q⟩=>⟨h1,?_⟩,fun ⟨h1,l,h2,q⟩=>⟨h1,l.c,?_,q⟩⟩
 ·obtain⟨l,hl,rfl⟩:=EL (f:=Lt.c) (xs:=ls) (by simpa [wy] using h2)
  exact⟨l,hl,q⟩
 ·have:=A9 (f:=Lt.c) h2
  simpa [wy] using this
theorem atL {ls:List Lt} {k:Nat} {l:Lt} (h:ls[k]?=some l):atI ls (k:Int)=some l:=jX (by omega) (by rw[Int.toNat_natCast];exact h)
theorem sEb {l:Lt}:(l.s == ("b":Str))=(l == .b):=by cases l <;> decide +kernel
theorem sEr {l:Lt}:(l.s == ("r":Str))=(l == .r):=by cases l <;> decide +kernel
theorem sEp {l:Lt}:(l.s == ("p":Str))=(l == .p):=by cases l <;> decide +kernel
theorem KY {a b c d e f:D}:cut [a,b,c,d,e,f] (some 2) none=[c,d,e,f]:=rfl
theorem Kr:(("corners":Str) == ("chosen":Str))=false:=by decide +kernel
theorem Kp:(("letters":Str) == ("chosen":Str))=false:=by decide +kernel
theorem Km:(("letters":Str) == ("corners":Str))=false:=by decide +kernel
theorem Kq:(("chosen":Str) == ("chosen":Str))=true:=by decide +kernel
theorem Kl:(("corners":Str) == ("corners":Str))=true:=by decide +kernel
theorem Ko:(("letters":Str) == ("letters":Str))=true:=by decide +kernel
local macro_rules | `(tactic| walk_at "x7")=>do `(tactic| try simp -dsimp only [$(←mkL "iI List.length_cons List.length_nil Nat.reduceAdd Nat.reduceSub Nat.zero_add List.replicate List.cons_append List.nil_append List.append_nil HP DB CD HV Ep Gp FL CB ↓lB ↓yT mP bor bof ↓kI Ew DA mz BH t3C uF Bn tst GV or3 F_ qL FV AA if3 IL Bj Gat Bo.at ats RV.d RV.sl uu i2 i2' uk eq3 eqS ↓AL ↓DV jk ke wq wt wA BU mx3 Jx wD DC n4 zQ zN zO n5 sl3 E_ Dz CA DQ nZ rO is3 knD dB dI dL dT GU ext3 yP nA vj ↓Hg sEb sEr sEp E9 KY xD ↓Hh ↓Hi Kr Kp Km Kq Kl Ko yn List.zip_cons_cons List.lookup_cons List.lookup_nil ↓vB sG ph ↓Gd wJ ↓ED zR ↓DY wa ↓yU sE ↓zY ↓wX Gs Gr Gq tgP dS Fw Ar Gn GK xE CF RV.fz.injEq ↓vA ck putD tgN tgT gives frees iL3 iR1 iR2 iZ3 iE3 lz3 ES ↓EE ↓w4 ↓tF ↓zS ↓Gb fA jY fI ej dz List.map_cons List.map_nil Option.bind_some Option.bind_none List.nodup_nil List.nodup_cons List.getElem?_cons_zero List.getElem?_cons_succ List.getElem?_nil List.set_cons_zero List.set_cons_succ exists_eq_left' exists_eq_left exists_eq' exists_eq exists_and_left exists_and_right Option.some.injEq D.int.injEq D.lst.injEq D.str.injEq D.tup.injEq D.bl.injEq D.ins.injEq D.ty.injEq List.cons.injEq and_true true_and and_false false_and true_or false_or or_false or_true and_assoc List.not_mem_nil not_false_eq_true ox tD Ca uj Ek tq El jN Bool.false_xor Bool.not_true Bool.not_false Bool.true_xor m5 List.mapIdx_cons List.mapIdx_nil cm GI Jt Ju GJ Jw Jv zP ite_self newD Option.getD_some Option.getD_none ER EO EN EM zI zH zG if_pos if_true if_false List.all_cons List.all_nil Option.isNone_none Bool.and_true Bool.true_and decide_eq_true_eq not_true not_false_iff reduceCtorEq"),*])
def HN:S3:=fun Γ Q=>∃ h w:Int,Γ=[some (.fz (.int h)),some (.fz (.int w))]∧iE h w∧Q (.fz (.bl true)) Γ
theorem zj (T:Txt K mg a):aT P w K mg base CX0 2 a.qb a.n8 ["height","width"] (sp3 K 2 HN):=by
 refine ok3 T.vn yZ (hbody:=fun cdv A outer s H E hr=>⟨_,_,(aj (br (P3W.pt (fQ (cg (cb (ay (by rfl) (fF T) (hr.mono (by decide)) (by rfl) T.gz T.fB.kp T.gI (aa (P3.opd (p3v 0)) (aa (P3.opd ag) (aa (P3.opd (ka (i:=64) (by rfl) T.jl)) af)))))) (eM (cg (cb (ay (by rfl) (fF T) (hr.mono (by decide)) (by rfl) T.gz T.fB.kp T.gI (aa (P3.opd (p3v 1)) (aa (P3.opd ag) (aa (P3.opd (ka (i:=64) (by rfl) T.jl)) af))))))))) (ak (aw fE)) a_)
   (ak (aw (iL qG (P3.opd (g0 (bv 0) (bv 1))) (P3.opd (ka (i:=512) (by rfl) T.uq)) (aR _))))),fun Γa Q h hl=>?_⟩)
 obtain⟨h,w,rfl,⟨a1,a2,a3,a4,a5⟩,q⟩:=h
 walk_at "x7"
 refine⟨_,_,_,rfl,rfl,?_⟩
 rw[show whD (.int h) 1 64=true by simp only[whD,Bool.and_eq_true,decide_eq_true_eq];omega]
 walk_at "x7"
 refine⟨_,_,_,rfl,rfl,?_⟩
 rw[show whD (.int w) 1 64=true by simp only[whD,Bool.and_eq_true,decide_eq_true_eq];omega]
 walk_at "x7"
 refine⟨.inl ⟨by omega,by omega⟩,?_⟩
 rw[show qa (h * w) 512=true by simp only[qa,decide_eq_true_eq];exact a5]
 exact q
theorem v5 (T:Txt K mg a):aT P w K mg base CX0 1 a.ml a.kj ["letter","height","width"] (sp3 K 3 K0):=by
 refine ok3 T.qR vD (hbody:=fun cdv A outer s H E hr=>⟨_,_,(aj (br (P3W.pt (Ay (aI (qH (by rfl)) (bv 0) (P3.opd (jf (p:=a.cN) (zs:=["r","b"]) (by rfl) T.iy)) (by with_unfolding_all rfl)) (xS (aI A4 (bv 2) (P3.opd ag) (aR _))))) (ak (aw fE)) a_)
   (aj (br (P3W.pt (Ay (aI (qH (by rfl)) (bv 0) (P3.opd (jf (p:=a.bM) (zs:=["p","b"]) (by rfl) T.fk)) (by with_unfolding_all rfl)) (xS (aI A4 (bv 1) (P3.opd ag) (aR _))))) (ak (aw fE)) a_)
   (ak (aw (Kf (iL (qH (by rfl)) (bv 0) (P3.opd (jf (p:=a.cN) (zs:=["r","b"]) (by rfl) T.iy)) (by with_unfolding_all rfl)) (su (iL (qH (by rfl)) (bv 0) (P3.opd (jf (p:=a.bM) (zs:=["p","b"]) (by rfl) T.fk)) (by with_unfolding_all rfl)))))))),fun Γa Q h hl=>?_⟩)
 obtain⟨l,h,w,rfl,⟨c1,c2⟩,q⟩:=h
 walk_at "x7"
 have e1:l≠.p→zV w 2=false:=fun z=>by have:=c1 z;simp only[zV,decide_eq_false_iff_not];omega
 have e2:l≠.r→zV h 2=false:=fun z=>by have:=c2 z;simp only[zV,decide_eq_false_iff_not];omega
 cases l
 ·rw[e1 (by decide)]
  exact q
 ·rw[e2 (by decide)]
  exact q
 ·rw[e1 (by decide),e2 (by decide)]
  exact q
def Jp:S3:=fun Γ Q=>∃ (h w:Int) (ls:List Lt),Γ=[some (.fz (.int h)),some (.fz (.int w)),some (.fz (.str (wy ls)))]∧Good h w ls∧ls.length≤10∧Q (.fz (.tup ((gk h w ls).map cD))) Γ
theorem iG {h w:Int} {ls:List Lt} {k:Nat} (hk:k < ls.length):((gk h w ls).take (k + 1)).map cD++[cD (cat h w ls (k + 1))]=((gk h w ls).take (k + 2)).map cD:=by
 have e:(gk h w ls).take (k + 1 + 1)=(gk h w ls).take (k + 1)++[cat h w ls (k + 1)]:=by
  conv=>lhs;rw[List.take_succ]
  rw[w6 (by omega)];rfl
 show _=((gk h w ls).take (k + 1 + 1)).map cD
 rw[e,List.map_append];rfl
theorem wx {ls:List Lt} {k:Nat} {d:D} (h:(ls.map fun l=>D.str l.s)[k]?=some d):∃ l,ls[k]?=some l∧d=.str l.s:=by
 rw[List.getElem?_map] at h
 cases q:ls[k]? with
 | none=>rw[q] at h;cases h
 | some l=>rw[q] at h;cases h;exact⟨l,rfl,rfl⟩
theorem wz {α:Type} {l:List α} {k:Nat} {a:α} (h:l[k]?=some a):k < l.length:=(List.getElem?_eq_some_iff.mp h).1
theorem ue (T:Txt K mg a):aT P w K mg base CX0 2 a.kz a.ju ["height","width","way"] (sp3 K 3 Jp):=by
 refine ok3 T.pI e7 (hbody:=fun cdv A outer s H E hr=>⟨_,_,(aj (br (cg (cb (ax (Hy T.tys) (by rfl) T.z_isinstance (by decide +kernel) (aa (bv 2) (aa (P3.opd (qy (n:="str") (by rfl) T.z_str (by decide +kernel))) af))))) (ak gT) a_)
   (aj (aZ (i:=3) e7.nd rfl (Or.inl rfl) (bR (ae (bL (ae (p3v 0) (ae (p3v 1) aq))) aq)))
   (aj (eS PassesOwn.never rfl (DZ (p3v 2)) (cE (i:=4) e7.nd rfl (Or.inl rfl))
   (aj (br (cg (cb (ay (by rfl) (v5 T) (hr.mono (by decide)) (by rfl) T.ya T.qR.kp T.yz (aa (P3.opd (p3v 4)) (aa (P3.opd (p3v 0)) (aa (P3.opd (p3v 1)) af)))))) (ak gT) a_)
   (aj (br (aI (qH (by rfl)) (bv 4) (P3.opd (jf (p:=a.cN) (zs:=["r","b"]) (by rfl) T.iy)) (by with_unfolding_all rfl)) (ak (aZ (i:=1) e7.nd rfl (Or.inl rfl) (cI (P3.opd (aJ (bv 1) (P3.opd ag))) (P3.opd ag)))) a_)
   (aj (br (aI (qH (by rfl)) (bv 4) (P3.opd (jf (p:=a.bM) (zs:=["p","b"]) (by rfl) T.fk)) (by with_unfolding_all rfl)) (ak (aZ (i:=0) e7.nd rfl (Or.inl rfl) (cI (P3.opd (aJ (bv 0) (P3.opd ag))) (P3.opd ag)))) a_)
   (ak (bN (cJ 3 (by rfl) (bv 3) (bL (ae (p3v 0) (ae (p3v 1) aq))))))))))
   (ak (aw (iF (GF (by rfl)) (by rfl) T.z_tuple (by decide +kernel) (aa (bv 3) af))))))),fun Γa Q h hl=>?_⟩)
 obtain⟨h,w,ls,rfl,g,hls,q⟩:=h
 walk_at "x7"
 refine⟨by rw[sizeLine_eq];omega,by rw[sizeLine_eq];omega,?_⟩
 rw[lZ]
 walk_at "x7"
 refine⟨yQ ls,fun k Γ=>k≤ls.length∧∃ s,Γ=[some (.fz (.int (cat h w ls k).1)),some (.fz (.int (cat h w ls k).2)),some (.fz (.str (wy ls))),some (.ow (.lst (((gk h w ls).take (k + 1)).map cD))),fo s],⟨Nat.zero_le _,none,by rw[qF];cases ls <;> rfl⟩,?_,?_⟩
 ·rintro k d Γ hd ⟨hk,s,rfl⟩
  rw[lx] at hd
  obtain⟨l,hl,rfl⟩:=wx hd
  have lt:=wz hl
  walk_at "x7"
  refine⟨l,_,_,rfl,rJ g hl,?_⟩
  walk_at "x7"
  have st:=jO (h:=h) (w:=w) hl
  have tk:((gk h w ls).take (k + 1)).length≤11:=by rw[List.length_take,fe];omega
  have z1:(2:Nat)≤sizeLine:=by rw[sizeLine_eq];omega
  have z2:(((gk h w ls).take (k + 1)).map cD).length < sizeLine:=by rw[List.length_map,sizeLine_eq];omega
  cases l
  ·rw[show (!Lt.r == Lt.p)=true from rfl,show (!Lt.r == Lt.r)=false from rfl]
   have st':cat h w ls (k + 1)=((cat h w ls k).1,((cat h w ls k).2 + 1) / 2):=st
   exact⟨⟨by decide,by decide⟩,z1,z2,lt,by rw[st'],by rw[st'],by rw[← iG lt,st'];rfl,some _,rfl⟩
  ·rw[show (!Lt.p == Lt.p)=false from rfl,show (!Lt.p == Lt.r)=true from rfl]
   have st':cat h w ls (k + 1)=(((cat h w ls k).1 + 1) / 2,(cat h w ls k).2):=st
   exact⟨⟨by decide,by decide⟩,z1,z2,lt,by rw[st'],by rw[st'],by rw[← iG lt,st'];rfl,some _,rfl⟩
  ·rw[show (!Lt.b == Lt.p)=true from rfl,show (!Lt.b == Lt.r)=true from rfl]
   have st':cat h w ls (k + 1)=(((cat h w ls k).1 + 1) / 2,((cat h w ls k).2 + 1) / 2):=st
   exact⟨⟨by decide,by decide⟩,⟨by decide,by decide⟩,z1,z2,lt,by rw[st'],by rw[st'],by rw[← iG lt,st'];rfl,some _,rfl⟩
 ·rintro Γ ⟨hk,s,rfl⟩
  walk_at "x7"
  rw[lx,List.length_map,List.take_of_length_le (by rw[fe];omega)]
  exact q
def Ii (a:Ad):S3:=fun Γ Q=>∃ (R:Rl) (h w:Int) (ls:List Lt),Γ=[some (.ln (.ins a.aW [] [])),some (.fz (.int h)),some (.fz (.int w)),some (.fz (.str R.word)),some (.fz (.str (wy ls)))]∧iE h w∧Good h w ls∧ls.length≤10∧
 Q (.fz .non) [some (.ln (plD a R h w ls)),some (.fz (.int h)),some (.fz (.int w)),some (.fz (.str R.word)),some (.fz (.str (wy ls)))]
theorem jL (T:Txt K mg a):aT P w K mg base CX0 3 a.ig a.gB ["self","height","width","word","way"] (sp3 K 5 (Ii a)):=by
 refine ok3 T.rD pQ (hbody:=fun cdv A outer s H E hr=>⟨_,_,(aj (br (cg (cb (ay (by rfl) (zj T) (hr.mono (by decide)) (by rfl) T.BP T.vn.kp T.Cc (aa (P3.opd (p3v 1)) (aa (P3.opd (p3v 2)) af))))) (ak gT) a_)
   (aj (vK (C0:=a.aW) 0 (by rfl) T.aD T.lS (bv 0) (ay (by rfl) (zi T) (hr.mono (by decide)) (by rfl) T.BO T.vm.kp T.Cb (aa (P3.opd (p3v 3)) af)))
   (aj (vK (C0:=a.aW) 0 (by rfl) T.aD T.cc (bv 0) (ay (by rfl) (ue T) (hr.mono (by decide)) (by rfl) T.wj T.pI.kp T.xb (aa (P3.opd (p3v 1)) (aa (P3.opd (p3v 2)) (aa (P3.opd (p3v 4)) af)))))
   (ak (vK (C0:=a.aW) 0 (by rfl) T.aD T.dR (bv 0) (p3v 4)))))),fun Γa Q h hl=>?_⟩)
 obtain⟨R,h,w,ls,rfl,sz,g,hls,q⟩:=h
 walk_at "x7"
 refine⟨h,w,rfl,sz,?_⟩
 walk_at "x7"
 refine⟨R,rfl,?_⟩
 walk_at "x7"
 refine⟨by decide,h,w,ls,rfl,g,hls,?_⟩
 walk_at "x7"
 exact⟨by decide +kernel,by decide,by decide +kernel,by decide,q⟩
def rT (a:Ad) (f:Rl→Int→Int→List Lt→D):S3:=fun Γ Q=>∃ (R:Rl) (h w:Int) (ls:List Lt),Γ=[some (.fz (plD a R h w ls))]∧ls.length≤10∧Q (.fz (f R h w ls)) Γ
theorem bP (T:Txt K mg a):aT P w K mg base CX0 1 a.mx a.ky ["self"] (sp3 K 1 (rT a fun R _ _ _=>R.ob a)):=by
 refine ok3 T.yN vJ (hbody:=fun cdv A outer s H E hr=>⟨_,_,(ak (aw (fi (f:="chosen") (by rfl) (bv 0) T.aD T.lS))),fun Γa Q h hl=>?_⟩)
 obtain⟨R,h,w,ls,rfl,hls,q⟩:=h
 walk_at "x7"
 exact q
theorem qA (T:Txt K mg a):aT P w K mg base CX0 1 a.oo a.mh ["self"] (sp3 K 1 (rT a fun _ _ _ ls=>.str (wy ls))):=by
 refine ok3 T.Aa xA (hbody:=fun cdv A outer s H E hr=>⟨_,_,(ak (aw (fi (f:="letters") (by rfl) (bv 0) T.aD T.dR))),fun Γa Q h hl=>?_⟩)
 obtain⟨R,h,w,ls,rfl,hls,q⟩:=h
 walk_at "x7"
 exact q
theorem lQ (T:Txt K mg a):aT P w K mg base CX0 1 a.jE a.iT ["self"] (sp3 K 1 (rT a fun _ h _ _=>.int h)):=by
 refine ok3 T.uz rZ (hbody:=fun cdv A outer s H E hr=>⟨_,_,(ak (aw (bz (by rfl) (P3.opd (bz (by rfl) (P3.opd (fi (f:="corners") (by rfl) (bv 0) T.aD T.cc)) (P3.opd ag) (fun _ _=>rfl))) (P3.opd ag) (fun _ _=>rfl)))),fun Γa Q h hl=>?_⟩)
 obtain⟨R,h,w,ls,rfl,hls,q⟩:=h
 walk_at "x7"
 have e:=iC (h:=h) (w:=w) (ls:=ls) (k:=0) (Nat.zero_le _)
 rw[qF] at e
 refine dU.mpr ⟨_,e,?_⟩
 unfold cD
 walk_at "x7"
 exact q
theorem nz (T:Txt K mg a):aT P w K mg base CX0 1 a.kE a.jz ["self"] (sp3 K 1 (rT a fun _ _ w _=>.int w)):=by
 refine ok3 T.xm ua (hbody:=fun cdv A outer s H E hr=>⟨_,_,(ak (aw (bz (by rfl) (P3.opd (bz (by rfl) (P3.opd (fi (f:="corners") (by rfl) (bv 0) T.aD T.cc)) (P3.opd ag) (fun _ _=>rfl))) (P3.opd ag) (fun _ _=>rfl)))),fun Γa Q h hl=>?_⟩)
 obtain⟨R,h,w,ls,rfl,hls,q⟩:=h
 walk_at "x7"
 have e:=iC (h:=h) (w:=w) (ls:=ls) (k:=0) (Nat.zero_le _)
 rw[qF] at e
 refine dU.mpr ⟨_,e,?_⟩
 unfold cD
 walk_at "x7"
 exact q
theorem gL (T:Txt K mg a):aT P w K mg base CX0 1 a.kF a.jA ["self"] (sp3 K 1 (rT a fun _ _ _ ls=>.int ls.length)):=by
 refine ok3 T.xn ub (hbody:=fun cdv A outer s H E hr=>⟨_,_,(ak (aw (ax (dm (by rfl)) (by rfl) T.z_len (by decide +kernel) (aa (P3.opd (fi (f:="letters") (by rfl) (bv 0) T.aD T.dR)) af)))),fun Γa Q h hl=>?_⟩)
 obtain⟨R,h,w,ls,rfl,hls,q⟩:=h
 walk_at "x7"
 refine⟨by rw[b8,sizeLine_eq];omega,?_⟩
 rw[b8];exact q
def Eu (a:Ad):S3:=fun Γ Q=>∃ (R:Rl) (h w:Int) (ls:List Lt) (k:Nat),Γ=[some (.fz (plD a R h w ls)),some (.fz (.int k))]∧ls.length≤10∧k≤ls.length∧Q (.fz (cD (cat h w ls k))) Γ
theorem sD (T:Txt K mg a):aT P w K mg base CX0 2 a.jF a.iU ["self","step"] (sp3 K 2 (Eu a)):=by
 refine ok3 T.uA r8 (hbody:=fun cdv A outer s H E hr=>⟨_,_,(aj (br (cg (cb (ay (by rfl) (fF T) (hr.mono (by decide)) (by rfl) T.gz T.fB.kp T.gI (aa (P3.opd (p3v 1)) (aa (P3.opd ag) (aa (P3.opd (aE (by rfl) (bv 0) T.aD T.gN (gL T) (hr.mono (by decide)) T.iA)) af)))))) (ak gT) a_)
   (ak (aw (bz (by rfl) (P3.opd (fi (f:="corners") (by rfl) (bv 0) T.aD T.cc)) (bv 1) (fun _ _=>rfl))))),fun Γa Q h hl=>?_⟩)
 obtain⟨R,h,w,ls,k,rfl,hls,hk,q⟩:=h
 walk_at "x7"
 refine⟨by decide +kernel,R,h,w,ls,rfl,hls,?_⟩
 walk_at "x7"
 refine⟨_,_,_,rfl,rfl,?_⟩
 rw[show whD (.int k) 0 (ls.length:Int)=true by simp only[whD,Bool.and_eq_true,decide_eq_true_eq];omega]
 walk_at "x7"
 exact dU.mpr ⟨_,iC hk,q⟩
structure Pt where
 s:Nat
 wd:Str
 t:Int
 l:Int
 hh:Int
 ww:Int
def Pt.D (p:Pt):L3.D:=.tup [.int p.s,.str p.wd,.int p.t,.int p.l,.int p.hh,.int p.ww]
def ud (t l:Int) (n:Nat) (y:Nat):List L3.D:=(List.range n).map fun (x:Nat)=>.tup [.int (t + (y:Int)),.int (l + (x:Int))]
def plc (t l hh ww:Int):List L3.D:=((List.range hh.toNat).map fun y=>ud t l ww.toNat y).flatten
def Pt.pl (p:Pt):List L3.D:=plc p.t p.l p.hh p.ww
structure PtB (p:Pt):Prop where
 t0:0≤p.t
 l0:0≤p.l
 h0:0≤p.hh
 w0:0≤p.ww
 t1:p.t≤64
 l1:p.l≤64
 h1:p.hh≤64
 w1:p.ww≤64
def C6:S3:=fun Γ Q=>∃ p:Pt,Γ=[some (.fz p.D)]∧PtB p∧Q (.fr (.lst p.pl)) Γ
theorem fP {i:Int} {n k:Nat} {d:L3.D} (h:(rng i n)[k]?=some d):k < n∧d=.int (i + (k:Int)):=by
 unfold rng at h
 exact pb h
theorem va {f:Nat→List L3.D} {k:Nat}:((List.range k).map f).flatten++f k=((List.range (k + 1)).map f).flatten:=by
 rw[List.range_succ,List.map_append,List.flatten_append];simp
theorem l_ {f:Nat→List L3.D} {m:Nat} (hf:∀ k,(f k).length=m):∀ n:Nat,((List.range n).map f).flatten.length=n * m
 | 0=>by simp
 | n + 1=>by rw[← va,List.length_append,l_ hf n,hf,Nat.add_mul,Nat.one_mul]
theorem lI {t l:Int} {n y:Nat}:(ud t l n y).length=n:=by simp [ud]
theorem vZ (T:Txt K mg a):aT P w K mg base CX0 1 a.mi a.kh ["part"] (sp3 K 1 C6):=by
 refine ok3 T.qP fJ (hbody:=fun cdv A outer s H E hr=>⟨_,_,(aj (iu (is:=[1,2,3,4]) (by rfl) (BE (by rfl) (bv 0) (dQ (P3.opd ag)) gU) (av (aA (i:=1) fJ.nd rfl (Or.inl rfl)) (av (aA (i:=2) fJ.nd rfl (Or.inr rfl)) (av (aA (i:=3) fJ.nd rfl (Or.inl rfl)) (av (aA (i:=4) fJ.nd rfl (Or.inr rfl)) b_)))) rfl)
   (ak (aw (xT rfl (uX (by rfl) T.z_range (ae (p3v 1) (ae (aJ (bv 1) (bv 3)) aq))) ik (fun _ _ _ _ _=>(cE (i:=0) ik.nd rfl (Or.inl rfl))) (fun _ _ _ _ _=>(uX (by rfl) T.z_range (ae (p3v 2) (ae (aJ (bv 2) (bv 3)) aq)))) (fun _ _ _ _ _=>(cE (i:=1) ik.nd rfl (Or.inl rfl))) (fun _ _ _ _ _=>(bL (ae (p3v 0) (ae (p3v 1) aq)))))))),fun Γa Q h hl=>?_⟩)
 obtain⟨⟨sn,wd,t,l,hh,ww⟩,rfl,⟨t0,l0,h0,w0,t1,l1,h1,w1⟩,q⟩:=h
 dsimp only at t0 l0 h0 w0 t1 l1 h1 w1
 unfold Pt.D
 walk_at "x7"
 refine⟨by simp [HT.sIx],?_⟩
 walk_at "x7"
 unfold wZ oq
 walk_at "x7"
 refine⟨by omega,by omega,by omega,by omega,?_⟩
 rw[show (t + hh - t).toNat=hh.toNat by omega]
 refine⟨fun k ys Γc=>ys=((List.range k).map fun y=>ud t l ww.toNat y).flatten∧k≤64∧∃ s s',Γc=[fo s,fo s',some (.fz (.int l)),some (.fz (.int ww))],⟨rfl,by omega,none,none,rfl⟩,?_,?_⟩
 ·rintro k d ys Γc hd ⟨rfl,hk,s,s',rfl⟩
  obtain⟨lt,rfl⟩:=fP hd
  walk_at "x7"
  refine⟨by omega,by omega,by omega,by omega,?_⟩
  rw[show (l + ww - l).toNat=ww.toNat by omega]
  have fl:=l_ (f:=fun y=>ud t l ww.toNat y) (m:=ww.toNat) (fun _=>lI) k
  have fb:k * ww.toNat≤64 * 64:=Nat.mul_le_mul (by omega) (by omega)
  refine⟨fun j ys Γc=>ys=((List.range k).map fun y=>ud t l ww.toNat y).flatten++ud t l j k∧j≤64∧∃ s',Γc=[some (.fz (.int (t + (k:Int)))),fo s',some (.fz (.int l)),some (.fz (.int ww))],⟨by simp [ud],by omega,s',rfl⟩,?_,?_⟩
  ·rintro j d ys Γc hd ⟨rfl,hj,s',rfl⟩
   obtain⟨lt2,rfl⟩:=fP hd
   walk_at "x7"
   refine⟨?_,by rw[sizeLine_eq];omega,?_,by omega,some _,rfl⟩
   ·rw[List.length_append,fl,lI,sizeLine_eq];omega
   ·rw[List.append_assoc];congr 1
    unfold ud;rw[List.range_succ,List.map_append];rfl
  ·rintro ys Γc ⟨rfl,hj,s',rfl⟩
   refine⟨?_,by omega,some _,s',rfl⟩
   rw[fh];exact va
 ·rintro ys Γc ⟨rfl,hk,s,s',rfl⟩
  rw[fh]
  walk_at "x7"
  refine⟨?_,q⟩
  rw[l_ (m:=ww.toNat) (fun _=>lI),sizeLine_eq]
  have:hh.toNat * ww.toNat≤64 * 64:=Nat.mul_le_mul (by omega) (by omega)
  omega
def xR (h w:Int) (ls:List Lt) (k:Nat):Lt→List Pt
 | .r=>[⟨k,"row",0,(cat h w ls (k + 1)).2,(cat h w ls (k + 1)).1,(cat h w ls k).2 - (cat h w ls (k + 1)).2⟩]
 | .p=>[⟨k,"pillar",(cat h w ls (k + 1)).1,0,(cat h w ls k).1 - (cat h w ls (k + 1)).1,(cat h w ls (k + 1)).2⟩]
 | .b=>[⟨k,"row",0,(cat h w ls (k + 1)).2,(cat h w ls (k + 1)).1,(cat h w ls k).2 - (cat h w ls (k + 1)).2⟩,⟨k,"pillar",(cat h w ls (k + 1)).1,0,(cat h w ls k).1 - (cat h w ls (k + 1)).1,(cat h w ls (k + 1)).2⟩,
   ⟨k,"both",(cat h w ls (k + 1)).1,(cat h w ls (k + 1)).2,(cat h w ls k).1 - (cat h w ls (k + 1)).1,(cat h w ls k).2 - (cat h w ls (k + 1)).2⟩]
def pat (h w:Int) (ls:List Lt) (k:Nat):List Pt:=match ls[k]? with
 | some l=>xR h w ls k l
 | none=>[]
theorem vV {h w:Int} {ls:List Lt} {k:Nat} {l:Lt} (hl:ls[k]?=some l):pat h w ls k=xR h w ls k l:=by unfold pat;rw[hl]
def Fq (a:Ad):S3:=fun Γ Q=>∃ (R:Rl) (h w:Int) (ls:List Lt) (k:Nat),Γ=[some (.fz (plD a R h w ls)),some (.fz (.int k))]∧ls.length≤10∧k < ls.length∧Q (.fr (.lst ((pat h w ls k).map Pt.D))) Γ
theorem lg (T:Txt K mg a):aT P w K mg base CX0 1 a.eD a.d9 ["self","step"] (sp3 K 2 (Fq a)):=by
 refine ok3 T.mK bx (hbody:=fun cdv A outer s H E hr=>⟨_,_,(aj (iu (is:=[2,3]) (by rfl) (bz (by rfl) (P3.opd (fi (f:="corners") (by rfl) (bv 0) T.aD T.cc)) (bv 1) (fun _ _=>rfl)) (av (aA (i:=2) bx.nd rfl (Or.inl rfl)) (av (aA (i:=3) bx.nd rfl (Or.inl rfl)) b_)) rfl)
   (aj (iu (is:=[4,5]) (by rfl) (bz (by rfl) (P3.opd (fi (f:="corners") (by rfl) (bv 0) T.aD T.cc)) (P3.opd (aJ (bv 1) (P3.opd ag))) (fun _ _=>rfl)) (av (aA (i:=4) bx.nd rfl (Or.inl rfl)) (av (aA (i:=5) bx.nd rfl (Or.inl rfl)) b_)) rfl)
   (aj (aZ (i:=6) bx.nd rfl (Or.inl rfl) (bz (by rfl) (P3.opd (fi (f:="letters") (by rfl) (bv 0) T.aD T.dR)) (bv 1) (fun _ _=>rfl)))
   (aj (aZ (i:=7) bx.nd rfl (Or.inl rfl) (bR aq))
   (aj (br (aI (qH (by rfl)) (bv 6) (P3.opd (jf (p:=a.cN) (zs:=["r","b"]) (by rfl) T.iy)) (by with_unfolding_all rfl)) (ak (bN (cJ 7 (by rfl) (bv 7) (bL (ae (p3v 1) (ae bA (ae ag (ae (p3v 5) (ae (p3v 4) (ae (cG (bv 3) (bv 5)) aq)))))))))) a_)
   (aj (br (aI (qH (by rfl)) (bv 6) (P3.opd (jf (p:=a.bM) (zs:=["p","b"]) (by rfl) T.fk)) (by with_unfolding_all rfl)) (ak (bN (cJ 7 (by rfl) (bv 7) (bL (ae (p3v 1) (ae bA (ae (p3v 4) (ae ag (ae (cG (bv 2) (bv 4)) (ae (p3v 5) aq)))))))))) a_)
   (aj (br (aI (gn (by rfl) hr) (bv 6) (P3.opd bA) (aR _)) (ak (bN (cJ 7 (by rfl) (bv 7) (bL (ae (p3v 1) (ae bA (ae (p3v 4) (ae (p3v 5) (ae (cG (bv 2) (bv 4)) (ae (cG (bv 3) (bv 5)) aq)))))))))) a_)
   (ak (aw (pR 7)))))))))),fun Γa Q h hl=>?_⟩)
 obtain⟨R,h,w,ls,k,rfl,hls,hk,q⟩:=h
 have z6:(6:Nat)≤sizeLine:=by rw[sizeLine_eq];omega
 have z0:(0:Nat)≤sizeLine:=by rw[sizeLine_eq];omega
 have z0':(0:Nat) < sizeLine:=by rw[sizeLine_eq];omega
 have z1':(1:Nat) < sizeLine:=by rw[sizeLine_eq];omega
 have z2':(2:Nat) < sizeLine:=by rw[sizeLine_eq];omega
 walk_at "x7"
 refine dU.mpr ⟨_,iC (by omega),?_⟩
 unfold cD
 walk_at "x7"
 refine dU.mpr ⟨_,iC (k:=k + 1) (by omega),?_⟩
 unfold cD
 walk_at "x7"
 obtain⟨l,hl⟩:∃ l,ls[k]?=some l:=⟨ls[k],by simp [hk]⟩
 refine⟨by rw[b8,sizeLine_eq];omega,l,atL hl,?_⟩
 walk_at "x7"
 rw[vV hl] at q
 cases l
 ·rw[show (!Lt.r == Lt.p)=true from rfl,show (!Lt.r == Lt.r)=false from rfl,show (Lt.r == Lt.b)=false from rfl]
  walk_at "x7"
  exact⟨z0,z6,z0',q⟩
 ·rw[show (!Lt.p == Lt.p)=false from rfl,show (!Lt.p == Lt.r)=true from rfl,show (Lt.p == Lt.b)=false from rfl]
  walk_at "x7"
  exact⟨z0,z6,z0',q⟩
 ·rw[show (!Lt.b == Lt.p)=true from rfl,show (!Lt.b == Lt.r)=true from rfl,show (Lt.b == Lt.b)=true from rfl]
  walk_at "x7"
  exact⟨z0,z6,z0',z6,z1',z6,z2',q⟩
def pts (h w:Int) (ls:List Lt):List Pt:=⟨ls.length,"coarse",0,0,(cat h w ls ls.length).1,(cat h w ls ls.length).2⟩::((List.range ls.length).map fun i=>pat h w ls (ls.length - 1 - i)).flatten
def jt (h w:Int) (ls:List Lt) (i:Nat):List Pt:=⟨ls.length,"coarse",0,0,(cat h w ls ls.length).1,(cat h w ls ls.length).2⟩::((List.range i).map fun i=>pat h w ls (ls.length - 1 - i)).flatten
theorem lK {h w:Int} {ls:List Lt} {i:Nat}:jt h w ls i++pat h w ls (ls.length - 1 - i)=jt h w ls (i + 1):=by
 unfold jt
 rw[List.range_succ,List.map_append,List.flatten_append,List.cons_append];simp
theorem Ax {h w:Int} {ls:List Lt} {k:Nat}:(pat h w ls k).length≤3:=by
 unfold pat
 cases ls[k]? with
 | none=>simp
 | some l=>cases l <;> simp [xR]
theorem j_ {h w:Int} {ls:List Lt}:∀ i:Nat,(jt h w ls i).length≤1 + 3 * i
 | 0=>by simp [jt]
 | i + 1=>by
  rw[← lK,List.length_append]
  have:=j_ (h:=h) (w:=w) (ls:=ls) i
  have:=Ax (h:=h) (w:=w) (ls:=ls) (k:=ls.length - 1 - i)
  omega
def FK (a:Ad):S3:=fun Γ Q=>∃ (R:Rl) (h w:Int) (ls:List Lt),Γ=[some (.fz (plD a R h w ls))]∧ls.length≤10∧Q (.fr (.lst ((pts h w ls).map Pt.D))) Γ
theorem xC {lo c:Int} {n k:Nat} {d:L3.D} (h:(sd lo c n)[k]?=some d):k < n∧d=.int (lo + (k:Int) * c):=by
 unfold sd at h
 exact pb h
theorem xB (lo c:Int) (n:Nat):(sd lo c n).length=n:=by simp [sd]
theorem e_ (T:Txt K mg a):aT P w K mg base CX0 2 a.kG a.jB ["self"] (sp3 K 1 (FK a)):=by
 refine ok3 T.xo e9 (hbody:=fun cdv A outer s H E hr=>⟨_,_,(aj (iu (is:=[1,2]) (by rfl) (bz (by rfl) (P3.opd (fi (f:="corners") (by rfl) (bv 0) T.aD T.cc)) (P3.opd (fR (P3.opd ag))) (fun _ _=>rfl)) (av (aA (i:=1) e9.nd rfl (Or.inl rfl)) (av (aA (i:=2) e9.nd rfl (Or.inl rfl)) b_)) rfl)
   (aj (aZ (i:=3) e9.nd rfl (Or.inl rfl) (bR (ae (bL (ae (aE (by rfl) (bv 0) T.aD T.gN (gL T) (hr.mono (by decide)) T.iA) (ae bA (ae ag (ae ag (ae (p3v 1) (ae (p3v 2) aq))))))) aq)))
   (aj (eS PassesOwn.never rfl (Jf (by rfl) T.z_reversed (by rfl) T.z_range (ae (aE (by rfl) (bv 0) T.aD T.gN (gL T) (hr.mono (by decide)) T.iA) aq)) (cE (i:=4) e9.nd rfl (Or.inl rfl))
   (ak (bN (pS 3 (by rfl) (bv 3) (P3.opd (aS (by rfl) (bv 0) T.aD T.lh (lg T) (hr.mono (by decide)) T.mF (aa (P3.opd (p3v 4)) af)))))))
   (ak (aw (pR 3)))))),fun Γa Q h hl=>?_⟩)
 obtain⟨R,h,w,ls,rfl,hls,q⟩:=h
 walk_at "x7"
 refine dU.mpr ⟨cD (cat h w ls ls.length),rK (by rw[List.length_map,fe];exact A0 (Nat.le_refl _)),?_⟩
 unfold cD
 walk_at "x7"
 refine⟨by decide +kernel,R,h,w,ls,rfl,hls,?_⟩
 walk_at "x7"
 refine⟨by rw[sizeLine_eq];omega,by rw[sizeLine_eq];omega,?_⟩
 rw[lZ]
 walk_at "x7"
 refine⟨by decide +kernel,R,h,w,ls,rfl,hls,?_⟩
 walk_at "x7"
 refine⟨by omega,by omega,?_⟩
 rw[Int.toNat_natCast]
 refine⟨fun i Γ=>i≤ls.length∧∃ s,Γ=[some (.fz (plD a R h w ls)),some (.fz (.int (cat h w ls ls.length).1)),some (.fz (.int (cat h w ls ls.length).2)),some (.ow (.lst ((jt h w ls i).map Pt.D))),fo s],⟨by omega,none,rfl⟩,?_,?_⟩
 ·rintro i d Γ hd ⟨hi,s,rfl⟩
  obtain⟨lt,rfl⟩:=xC hd
  walk_at "x7"
  refine⟨by decide +kernel,R,h,w,ls,ls.length - 1 - i,by rw[show (ls.length:Int) - 1 + (i:Int) * -1=((ls.length - 1 - i:Nat):Int) by omega],hls,by omega,?_⟩
  walk_at "x7"
  have l1:=j_ (h:=h) (w:=w) (ls:=ls) i
  have l2:=Ax (h:=h) (w:=w) (ls:=ls) (k:=ls.length - 1 - i)
  refine⟨by rw[List.length_map,List.length_map,sizeLine_eq];omega,by omega,?_,some _,rfl⟩
  rw[← lK,List.map_append]
 ·rintro Γ ⟨hi,s,rfl⟩
  rw[xB]
  walk_at "x7"
  exact q
structure tT (h w:Int) (ls:List Lt) (p:Pt):Prop where
 s:p.s≤ls.length
 t0:0≤p.t
 l0:0≤p.l
 h1:1≤p.hh
 w1:1≤p.ww
 ht:p.t + p.hh≤(cat h w ls p.s).1
 wl:p.l + p.ww≤(cat h w ls p.s).2
 out:p.s < ls.length→(cat h w ls (p.s + 1)).1≤p.t∨(cat h w ls (p.s + 1)).2≤p.l
theorem FJ {h w:Int} {ls:List Lt} {k:Nat} {l:Lt} (g:Good h w ls) (sz:iE h w) (hl:ls[k]?=some l):∀ p∈xR h w ls k l,tT h w ls p:=by
 have lt:=wz hl
 obtain⟨c1,c2⟩:=rJ g hl
 have st:=jO (h:=h) (w:=w) hl
 obtain⟨a1,a2,_,_⟩:=gm (k:=k) g sz.h1 sz.w1 (by omega)
 obtain⟨b1,b2,_,_⟩:=gm (k:=k + 1) g sz.h1 sz.w1 (by omega)
 intro p hp
 cases l
 ·have e1:(cat h w ls (k + 1)).1=(cat h w ls k).1:=by rw[st];rfl
  have e2:(cat h w ls (k + 1)).2=((cat h w ls k).2 + 1) / 2:=by rw[st];rfl
  have:=c1 (by decide)
  simp only[xR,List.mem_cons,List.not_mem_nil,or_false] at hp
  subst hp
  exact⟨by dsimp only;omega,by dsimp only;omega,by dsimp only;omega,by dsimp only;omega,by dsimp only;omega,by dsimp only;omega,by dsimp only;omega,fun _=>.inr (Int.le_refl _)⟩
 ·have e1:(cat h w ls (k + 1)).1=((cat h w ls k).1 + 1) / 2:=by rw[st];rfl
  have e2:(cat h w ls (k + 1)).2=(cat h w ls k).2:=by rw[st];rfl
  have:=c2 (by decide)
  simp only[xR,List.mem_cons,List.not_mem_nil,or_false] at hp
  subst hp
  exact⟨by dsimp only;omega,by dsimp only;omega,by dsimp only;omega,by dsimp only;omega,by dsimp only;omega,by dsimp only;omega,by dsimp only;omega,fun _=>.inl (Int.le_refl _)⟩
 ·have e1:(cat h w ls (k + 1)).1=((cat h w ls k).1 + 1) / 2:=by rw[st];rfl
  have e2:(cat h w ls (k + 1)).2=((cat h w ls k).2 + 1) / 2:=by rw[st];rfl
  have:=c1 (by decide)
  have:=c2 (by decide)
  simp only[xR,List.mem_cons,List.not_mem_nil,or_false] at hp
  rcases hp with rfl | rfl | rfl
  ·exact⟨by dsimp only;omega,by dsimp only;omega,by dsimp only;omega,by dsimp only;omega,by dsimp only;omega,by dsimp only;omega,by dsimp only;omega,fun _=>.inr (Int.le_refl _)⟩
  ·exact⟨by dsimp only;omega,by dsimp only;omega,by dsimp only;omega,by dsimp only;omega,by dsimp only;omega,by dsimp only;omega,by dsimp only;omega,fun _=>.inl (Int.le_refl _)⟩
  ·exact⟨by dsimp only;omega,by dsimp only;omega,by dsimp only;omega,by dsimp only;omega,by dsimp only;omega,by dsimp only;omega,by dsimp only;omega,fun _=>.inl (Int.le_refl _)⟩
theorem lH {h w:Int} {ls:List Lt} (g:Good h w ls) (sz:iE h w):∀ p∈pts h w ls,tT h w ls p:=by
 intro p hp
 unfold pts at hp
 rcases List.mem_cons.mp hp with rfl | hp
 ·obtain⟨a1,a2,_,_⟩:=gm (k:=ls.length) g sz.h1 sz.w1 (Nat.le_refl _)
  exact⟨Nat.le_refl _,by dsimp only;omega,by dsimp only;omega,a1,a2,by dsimp only;omega,by dsimp only;omega,fun z=>absurd z (Nat.lt_irrefl _)⟩
 ·rw[List.mem_flatten] at hp
  obtain⟨xs,hxs,hp⟩:=hp
  obtain⟨i,_,rfl⟩:=List.mem_map.mp hxs
  cases q:ls[ls.length - 1 - i]? with
  | none=>unfold pat at hp;rw[q] at hp;cases hp
  | some l=>rw[vV q] at hp;exact FJ g sz q p hp
theorem tT.b {h w:Int} {ls:List Lt} {p:Pt} (o:tT h w ls p) (g:Good h w ls) (sz:iE h w):PtB p:=by
 obtain⟨a1,a2,a3,a4⟩:=gm (k:=p.s) g sz.h1 sz.w1 o.s
 have:=sz.h2
 have:=sz.w2
 have:=o.ht
 have:=o.wl
 exact⟨o.t0,o.l0,by have:=o.h1;omega,by have:=o.w1;omega,by have:=o.h1;omega,by have:=o.w1;omega,by have:=o.t0;omega,by have:=o.l0;omega⟩
theorem vR {p:Pt} (b:PtB p):p.pl.length≤4096:=by
 unfold Pt.pl plc
 rw[l_ (m:=p.ww.toNat) (fun _=>lI)]
 have:p.hh.toNat * p.ww.toNat≤64 * 64:=Nat.mul_le_mul (by have:=b.h1;omega) (by have:=b.w1;omega)
 omega
def kZ (ps:List Pt):List D:=(ps.map Pt.pl).flatten
def ord (h w:Int) (ls:List Lt):List D:=kZ (pts h w ls)
theorem uP {ps:List Pt} {p:Pt}:kZ ps++p.pl=kZ (ps++[p]):=by unfold kZ;simp
theorem oM:∀ {ps:List Pt},(∀ p∈ps,PtB p)→(kZ ps).length≤4096 * ps.length
 | [],_=>by simp [kZ]
 | p::ps,hb=>by
  have e:kZ (p::ps)=p.pl++kZ ps:=by simp [kZ]
  have:=oM (ps:=ps) fun q hq=>hb q (List.mem_cons_of_mem _ hq)
  have:=vR (hb p List.mem_cons_self)
  rw[e,List.length_append,List.length_cons];omega
theorem vQ {ps:List Pt} {k:Nat} {d:D} (h:(ps.map Pt.D)[k]?=some d):∃ p,ps[k]?=some p∧d=p.D:=by
 rw[List.getElem?_map] at h
 cases q:ps[k]? with
 | none=>rw[q] at h;cases h
 | some l=>rw[q] at h;cases h;exact⟨l,rfl,rfl⟩
theorem rP {α:Type} {l:List α} {k:Nat} {x:α} (h:l[k]?=some x):l.take (k + 1)=l.take k++[x]:=by rw[List.take_succ,h];rfl
def FU (a:Ad):S3:=fun Γ Q=>∃ (R:Rl) (h w:Int) (ls:List Lt),Γ=[some (.fz (plD a R h w ls))]∧iE h w∧Good h w ls∧ls.length≤10∧Q (.fr (.lst (ord h w ls))) Γ
theorem mR {h w:Int} {ls:List Lt} (hl:ls.length≤10):(pts h w ls).length≤31:=by
 have:=j_ (h:=h) (w:=w) (ls:=ls) ls.length
 have e:pts h w ls=jt h w ls ls.length:=rfl
 rw[e];omega
theorem gM (T:Txt K mg a):aT P w K mg base CX0 3 a.kH a.jC ["self"] (sp3 K 1 (FU a)):=by
 refine ok3 T.xp uc (hbody:=fun cdv A outer s H E hr=>⟨_,_,(ak (aw (xT rfl (gP (by rfl) (aE (by rfl) (bv 0) T.aD T.fc (e_ T) (hr.mono (by decide)) T.gp)) gH (fun _ _ _ _ _=>(cE (i:=0) gH.nd rfl (Or.inl rfl))) (fun _ _ _ _ _=>(gP (by rfl) (ay (by rfl) (vZ T) (hr.mono (by decide)) (by rfl) T.x9 T.qP.kp T.yx (aa (P3.opd (p3v 0)) af)))) (fun _ _ _ _ _=>(cE (i:=1) gH.nd rfl (Or.inl rfl))) (fun _ _ _ _ _=>(p3v 1))))),fun Γa Q h hl=>?_⟩)
 obtain⟨R,h,w,ls,rfl,sz,g,hls,q⟩:=h
 have PB:∀ p∈pts h w ls,PtB p:=fun p hp=>(lH g sz p hp).b g sz
 have PL:=mR (h:=h) (w:=w) hls
 walk_at "x7"
 unfold wZ oq
 walk_at "x7"
 refine⟨by decide +kernel,R,h,w,ls,rfl,hls,?_⟩
 walk_at "x7"
 refine⟨fun k ys Γc=>ys=kZ ((pts h w ls).take k)∧∃ s s',Γc=[fo s,fo s'],⟨rfl,none,none,rfl⟩,?_,?_⟩
 ·rintro k d ys Γc hd ⟨rfl,s,s',rfl⟩
  obtain⟨p,hp,rfl⟩:=vQ hd
  have hm:p∈pts h w ls:=List.mem_of_getElem? hp
  walk_at "x7"
  refine⟨p,rfl,PB p hm,?_⟩
  walk_at "x7"
  have l1:=oM (ps:=(pts h w ls).take k) fun q hq=>PB q (List.mem_of_mem_take hq)
  have l2:=vR (PB p hm)
  have l3:((pts h w ls).take k).length≤31:=by rw[List.length_take];omega
  refine⟨fun j ys Γc=>ys=kZ ((pts h w ls).take k)++p.pl.take j∧∃ s',Γc=[some (.fz p.D),fo s'],⟨by simp,s',rfl⟩,?_,?_⟩
  ·rintro j d ys Γc hd ⟨rfl,s',rfl⟩
   walk_at "x7"
   refine⟨by rw[List.length_append,List.length_take,sizeLine_eq];omega,by rw[List.append_assoc,rP hd],some _,rfl⟩
  ·rintro ys Γc ⟨rfl,s',rfl⟩
   refine⟨by rw[List.take_length,uP,rP hp],some _,s',rfl⟩
 ·rintro ys Γc ⟨rfl,s,s',rfl⟩
  rw[List.length_map,List.take_length]
  walk_at "x7"
  have l1:=oM PB
  exact⟨by rw[sizeLine_eq];omega,q⟩
def inB (y x h w:Int):Bool:=whD (.int y) 0 (h - 1) && whD (.int x) 0 (w - 1)
abbrev pD (y x:Int):D:=.tup [.int y,.int x]
def Cq:S3:=fun Γ Q=>∃ y x h w:Int,Γ=[some (.fz (pD y x)),some (.fz (.int h)),some (.fz (.int w))]∧Q (.fz (.bl (inB y x h w))) Γ
theorem iM (T:Txt K mg a):aT P w K mg base CX0 2 a.gg a.ft ["thing","height","width"] (sp3 K 3 Cq):=by
 refine ok3 T.gr nO (hbody:=fun cdv A outer s H E hr=>⟨_,_,(aj (br (P3W.pt (fQ (cg (cb (ax (K1 T.ty) (by rfl) T.z_isinstance (by decide +kernel) (aa (bv 0) (aa (P3.opd (qy (n:="tuple") (by rfl) T.z_tuple (by decide +kernel))) af))))) (eM (aI (ee (by rfl) hr) (P3.opd (ax (dm (by rfl)) (by rfl) T.z_len (by decide +kernel) (aa (bv 0) af))) (P3.opd ag) (aR _))))) (ak (aw fE)) a_)
   (ak (aw (vY (ay (by rfl) (fF T) (hr.mono (by decide)) (by rfl) T.gz T.fB.kp T.gI (aa (P3.opd (bz (by rfl) (bv 0) (P3.opd ag) (fun _ _=>rfl))) (aa (P3.opd ag) (aa (P3.opd (cG (bv 1) (P3.opd ag))) af)))) (su (ay (by rfl) (fF T) (hr.mono (by decide)) (by rfl) T.gz T.fB.kp T.gI (aa (P3.opd (bz (by rfl) (bv 0) (P3.opd ag) (fun _ _=>rfl))) (aa (P3.opd ag) (aa (P3.opd (cG (bv 2) (P3.opd ag))) af))))))))),fun Γa Q h hl=>?_⟩)
 obtain⟨y,x,h,w,rfl,q⟩:=h
 walk_at "x7"
 refine⟨_,_,_,rfl,rfl,?_⟩
 unfold inB at q
 cases e:whD (.int y) 0 (h - 1)
 ·walk_at "x7"
  rw[e,Bool.false_and] at q
  exact q
 ·walk_at "x7"
  rw[e,Bool.true_and] at q
  exact⟨_,_,_,rfl,rfl,q⟩
def Lt.n:Lt→Int
 | .b=>2
 | _=>1
def oF (h w:Int) (ls:List Lt) (y x:Int) (i:Nat):Int:=if inB y x (cat h w ls i).1 (cat h w ls i).2 then (ls.getD i .r).n else 0
def m_ (h w:Int) (ls:List Lt) (y x:Int):Nat→Int
 | 0=>0
 | k + 1=>m_ h w ls y x k + oF h w ls y x k
theorem Jg {h w:Int} {ls:List Lt} {y x:Int}:∀ k:Nat,0≤m_ h w ls y x k∧m_ h w ls y x k≤2 * k
 | 0=>by simp [m_]
 | k + 1=>by
  have:=Jg (h:=h) (w:=w) (ls:=ls) (y:=y) (x:=x) k
  have e:0≤oF h w ls y x k∧oF h w ls y x k≤2:=by
   unfold oF
   split
   ·cases ls.getD k .r <;> simp [Lt.n]
   ·omega
  simp only[m_];omega
def Jh (a:Ad):S3:=fun Γ Q=>∃ (R:Rl) (h w:Int) (ls:List Lt) (y x:Int),Γ=[some (.fz (plD a R h w ls)),some (.fz (pD y x))]∧ls.length≤10∧inB y x h w=true∧Q (.fz (.int (m_ h w ls y x ls.length))) Γ
theorem Cn {ls:List Lt} {cs:List (Int×Int)} {k:Nat} {d:D} (h:(ir (signs (wy ls)) (cs.map cD))[k]?=some d):∃ l c,ls[k]?=some l∧cs[k]?=some c∧d=.tup [.str l.s,cD c]:=by
 rw[lx] at h
 obtain⟨x,y,hx,hy,rfl⟩:=jK h
 obtain⟨l,hl,rfl⟩:=wx hx
 rw[List.getElem?_map] at hy
 cases q:cs[k]? with
 | none=>rw[q] at hy;cases hy
 | some c=>rw[q] at hy;cases hy;exact⟨l,c,hl,rfl,rfl⟩
theorem pV (T:Txt K mg a):aT P w K mg base CX0 3 a.ic a.gA ["self","place"] (sp3 K 2 (Jh a)):=by
 refine ok3 T.rC dc (hbody:=fun cdv A outer s H E hr=>⟨_,_,(aj (br (cg (cb (ay (by rfl) (iM T) (hr.mono (by decide)) (by rfl) T.jj T.gr.kp T.jm (aa (P3.opd (p3v 1)) (aa (P3.opd (aE (by rfl) (bv 0) T.aD T.lT (lQ T) (hr.mono (by decide)) T.nM)) (aa (P3.opd (aE (by rfl) (bv 0) T.aD T.nB (nz T) (hr.mono (by decide)) T.pB)) af)))))) (ak gT) a_)
   (aj (aZ (i:=2) dc.nd rfl (Or.inl rfl) ag)
   (aj (eS PassesOwn.never rfl (KD (by rfl) (by rfl) T.z_zip (ae (fi (f:="letters") (by rfl) (bv 0) T.aD T.dR) (ae (fi (f:="corners") (by rfl) (bv 0) T.aD T.cc) aq))) (Gx (i:=3) (j:=4) (k:=5) (by rfl) rfl (aA (i:=3) dc.nd rfl (Or.inl rfl)) (av (aA (i:=4) dc.nd rfl (Or.inl rfl)) (av (aA (i:=5) dc.nd rfl (Or.inl rfl)) b_)))
   (ak (br (cb (ay (by rfl) (iM T) (hr.mono (by decide)) (by rfl) T.jj T.gr.kp T.jm (aa (P3.opd (p3v 1)) (aa (P3.opd (p3v 4)) (aa (P3.opd (p3v 5)) af))))) (ak (HS (i:=2) dc.nd rfl (Or.inl rfl) (Dj (aI (gn (by rfl) hr) (bv 3) (P3.opd bA) (aR _)) ag ag))) a_)))
   (ak (aw (pR 2)))))),fun Γa Q h hl=>?_⟩)
 obtain⟨R,h,w,ls,y,x,rfl,hls,hin,q⟩:=h
 walk_at "x7"
 refine⟨by decide +kernel,R,h,w,ls,rfl,hls,?_⟩
 walk_at "x7"
 refine⟨by decide +kernel,R,h,w,ls,rfl,hls,?_⟩
 walk_at "x7"
 refine⟨y,x,h,w,rfl,?_⟩
 rw[hin]
 walk_at "x7"
 rw[lZ]
 walk_at "x7"
 refine⟨yQ ls,by rw[Ae,List.length_map,fe];omega,?_⟩
 refine⟨fun i Γ=>i≤ls.length∧∃ s s' s'',Γ=[some (.fz (plD a R h w ls)),some (.fz (pD y x)),some (.fz (.int (m_ h w ls y x i))),fo s,fo s',fo s''],⟨by omega,none,none,none,rfl⟩,?_,?_⟩
 ·rintro i d Γ hd ⟨hi,s,s',s'',rfl⟩
  obtain⟨l,c,hl,hc,rfl⟩:=Cn hd
  have lt:=wz hl
  have hc':c=cat h w ls i:=by
   have:=w6 (h:=h) (w:=w) (ls:=ls) (k:=i) (by omega)
   rw[this] at hc;exact(Option.some.inj hc).symm
  subst hc'
  unfold cD
  walk_at "x7"
  refine⟨y,x,_,_,rfl,?_⟩
  have gd:ls.getD i .r=l:=by rw[List.getD_eq_getElem?_getD,hl];rfl
  have e:m_ h w ls y x (i + 1)=m_ h w ls y x i + (if inB y x (cat h w ls i).1 (cat h w ls i).2 then l.n else 0):=by
   show _ + oF h w ls y x i=_
   unfold oF;rw[gd]
  cases hb:inB y x (cat h w ls i).1 (cat h w ls i).2
  ·walk_at "x7"
   rw[hb] at e
   exact⟨lt,by rw[e];simp,⟨some _,rfl⟩,⟨some _,rfl⟩,⟨some _,rfl⟩⟩
  ·walk_at "x7"
   rw[hb] at e
   cases l
   ·rw[show (Lt.r == Lt.b)=false from rfl]
    exact⟨lt,by rw[e];rfl,⟨some _,rfl⟩,⟨some _,rfl⟩,⟨some _,rfl⟩⟩
   ·rw[show (Lt.p == Lt.b)=false from rfl]
    exact⟨lt,by rw[e];rfl,⟨some _,rfl⟩,⟨some _,rfl⟩,⟨some _,rfl⟩⟩
   ·rw[show (Lt.b == Lt.b)=true from rfl]
    exact⟨lt,by rw[e];rfl,⟨some _,rfl⟩,⟨some _,rfl⟩,⟨some _,rfl⟩⟩
 ·rintro Γ ⟨hi,s,s',s'',rfl⟩
  rw[rM,mQ,Ae,List.length_map,fe,show min ls.length (ls.length + 1)=ls.length by omega]
  walk_at "x7"
  exact q
def Rl.two (R:Rl) (t g:Int):List Int:=match R with
 | .sum=>[(t + g) / 2,t - (t + g) / 2]
 | _=>[t + (g + 1) / 2,t + (g + 1) / 2 - g]
def Rl.one (R:Rl) (t:Int):Int:=match R with
 | .sum=>t / 2
 | _=>t
def G1 (f:Int→Int→List Int):S3:=fun Γ Q=>∃ (d:D) (x y:Int),Γ=[some (.fz d),some (.fz (.int x)),some (.fz (.int y))]∧Q (.fr (il (f x y))) Γ
theorem q8 (T:Txt K mg a):aT P w K mg base CX0 1 a.gi a.hX ["self","total","gap"] (sp3 K 3 (G1 Rl.sum.two)):=by
 refine ok3 T.tX kM (hbody:=fun cdv A outer s H E hr=>⟨_,_,(aj (aZ (i:=3) kM.nd rfl (Or.inl rfl) (cI (P3.opd (aJ (bv 1) (bv 2))) (P3.opd ag)))
   (ak (aw (bR (ae (p3v 3) (ae (cG (bv 1) (bv 3)) aq)))))),fun Γa Q h hl=>?_⟩)
 obtain⟨d,x,y,rfl,q⟩:=h
 walk_at "x7"
 exact⟨⟨by decide,by decide⟩,by rw[sizeLine_eq];omega,q⟩
theorem jg (T:Txt K mg a):aT P w K mg base CX0 1 a.eO a.f_ ["self","total","gap"] (sp3 K 3 (G1 Rl.half.two)):=by
 refine ok3 T.qr je (hbody:=fun cdv A outer s H E hr=>⟨_,_,(aj (aZ (i:=3) je.nd rfl (Or.inl rfl) (aJ (bv 1) (P3.opd (cI (P3.opd (aJ (bv 2) (P3.opd ag))) (P3.opd ag)))))
   (ak (aw (bR (ae (p3v 3) (ae (cG (bv 3) (bv 2)) aq)))))),fun Γa Q h hl=>?_⟩)
 obtain⟨d,x,y,rfl,q⟩:=h
 walk_at "x7"
 exact⟨⟨by decide,by decide⟩,by rw[sizeLine_eq];omega,q⟩
theorem q9 (T:Txt K mg a):aT P w K mg base CX0 1 a.gj a.hZ ["self","total"] (sp3 K 2 (Gu Rl.sum.one)):=by
 refine ok3 T.tY qX (hbody:=fun cdv A outer s H E hr=>⟨_,_,(ak (aw (cI (bv 1) (P3.opd ag)))),fun Γa Q h hl=>?_⟩)
 obtain⟨d,x,rfl,q⟩:=h
 walk_at "x7"
 exact⟨⟨by decide,by decide⟩,q⟩
theorem jh (T:Txt K mg a):aT P w K mg base CX0 1 a.eP a.gb ["self","total"] (sp3 K 2 (Gu Rl.half.one)):=by
 refine ok3 T.qt oH (hbody:=fun cdv A outer s H E hr=>⟨_,_,(ak (aw (pR 1))),fun Γa Q h hl=>?_⟩)
 obtain⟨d,x,rfl,q⟩:=h
 walk_at "x7"
 exact q
def fq (f:Int→Int→List Int) (S G:List Int) (k:Nat):List Int:=((List.range k).map fun j=>f (S.getD j 0) (G.getD j 0)).flatten
theorem lL {f:Int→Int→List Int} {S G:List Int} {k:Nat}:fq f S G k++f (S.getD k 0) (G.getD k 0)=fq f S G (k + 1):=by
 unfold fq
 rw[List.range_succ,List.map_append,List.flatten_append];simp
theorem nR {f:Int→Int→List Int} (hf:∀ x y,(f x y).length=2) {S G:List Int}:∀ k:Nat,(fq f S G k).length=2 * k
 | 0=>by simp [fq]
 | k + 1=>by rw[← lL,List.length_append,nR hf k,hf];omega
theorem Af (R:Rl) (x y:Int):(R.two x y).length=2:=by cases R <;> rfl
def y4 (R:Rl) (S G:List Int):List Int:=fq R.two S G G.length++(if S.length=G.length then [] else [R.one (S.getD (S.length - 1) 0)])
def Fg (a:Ad):S3:=fun Γ Q=>∃ (R:Rl) (S G:List Int),Γ=[some (.fz (R.ob a)),some (.fz (il S)),some (.fz (il G))]∧R≠.guess∧G.length≤S.length∧S.length≤G.length + 1∧1≤G.length∧S.length≤64∧Q (.fr (il (y4 R S G))) Γ
theorem iN (T:Txt K mg a):aT P w K mg base CX0 2 a.dZ a.iP ["self","sums","gaps"] (sp3 K 3 (Fg a)):=by
 refine ok3 T.uv fL (hbody:=fun cdv A outer s H E hr=>⟨_,_,(aj (aZ (i:=3) fL.nd rfl (Or.inl rfl) (bR aq))
   (aj (eS PassesOwn.never rfl (lY (by rfl) T.z_zip (ae (p3v 1) (ae (p3v 2) aq))) (hU (is:=[4,5]) (by rfl) (av (aA (i:=4) fL.nd rfl (Or.inl rfl)) (av (aA (i:=5) fL.nd rfl (Or.inl rfl)) b_)) rfl)
   (ak (bN (pS 3 (by rfl) (bv 3) (P3.opd (P3.or (aS (by rfl) (bv 0) T.fj T.rh (q8 T) (hr.mono (by decide)) T.tP (aa (P3.opd (p3v 4)) (aa (P3.opd (p3v 5)) af))) (P3.or (aS (by rfl) (bv 0) T.df T.o6 (jg T) (hr.mono (by decide)) T.jV (aa (P3.opd (p3v 4)) (aa (P3.opd (p3v 5)) af))) (aS (by rfl) (bv 0) T.cM T.nW (jg T) (hr.mono (by decide)) T.jV (aa (P3.opd (p3v 4)) (aa (P3.opd (p3v 5)) af))))))))))
   (aj (br (aI tJ (P3.opd (ax (dm (by rfl)) (by rfl) T.z_len (by decide +kernel) (aa (bv 1) af))) (P3.opd (ax (dm (by rfl)) (by rfl) T.z_len (by decide +kernel) (aa (bv 2) af))) (aR _)) (ak (bN (cJ 3 (by rfl) (bv 3) (P3.or (aS (by rfl) (bv 0) T.fj T.rj (q9 T) (hr.mono (by decide)) T.tQ (aa (P3.opd (bz (by rfl) (bv 1) (P3.opd (fR (P3.opd ag))) (fun _ _=>rfl))) af)) (P3.or (aS (by rfl) (bv 0) T.df T.o7 (jh T) (hr.mono (by decide)) T.jW (aa (P3.opd (bz (by rfl) (bv 1) (P3.opd (fR (P3.opd ag))) (fun _ _=>rfl))) af)) (aS (by rfl) (bv 0) T.cM T.nX (jh T) (hr.mono (by decide)) T.jW (aa (P3.opd (bz (by rfl) (bv 1) (P3.opd (fR (P3.opd ag))) (fun _ _=>rfl))) af))))))) a_)
   (ak (aw (pR 3)))))),fun Γa Q h hl=>?_⟩)
 obtain⟨R,S,G,rfl,hR,h1,h2,h3,h4,q⟩:=h
 walk_at "x7"
 refine⟨by rw[sizeLine_eq];omega,?_⟩
 rw[lZ]
 walk_at "x7"
 have pl:=nR (f:=R.two) (Af R) (S:=S) (G:=G)
 refine⟨fun k Γ=>k≤G.length∧∃ s s',Γ=[some (.fz (R.ob a)),some (.fz (il S)),some (.fz (il G)),some (.ow (il (fq R.two S G k))),fo s,fo s'],⟨by omega,none,none,rfl⟩,?_,?_⟩
 ·rintro k d Γ hd ⟨hk,s,s',rfl⟩
  obtain⟨l1,l2,rfl⟩:=zip_get hd
  walk_at "x7"
  have sz:(List.map D.int (fq R.two S G k)).length + (List.map D.int (R.two (S.getD k 0) (G.getD k 0))).length≤sizeLine:=by rw[List.length_map,List.length_map,pl,Af,sizeLine_eq];omega
  have fin:List.map D.int (fq R.two S G k)++List.map D.int (R.two (S.getD k 0) (G.getD k 0))=List.map D.int (fq R.two S G (k + 1)):=by rw[← lL,List.map_append]
  cases R with
  | guess=>exact absurd rfl hR
  | sum=>
   refine .inl ?_
   walk_at "x7"
   refine⟨rfl,_,_,_,rfl,?_⟩
   walk_at "x7"
   exact⟨sz,l2,by rw[fin],⟨some _,rfl⟩,⟨some _,rfl⟩⟩
  | half=>
   refine .inr (.inl ?_)
   walk_at "x7"
   refine⟨rfl,_,_,_,rfl,?_⟩
   walk_at "x7"
   exact⟨sz,l2,by rw[fin],⟨some _,rfl⟩,⟨some _,rfl⟩⟩
  | lean=>
   refine .inr (.inr ?_)
   walk_at "x7"
   refine⟨rfl,_,_,_,rfl,?_⟩
   walk_at "x7"
   exact⟨sz,l2,by rw[il,← fin];rfl,⟨some _,rfl⟩,⟨some _,rfl⟩⟩
 ·rintro Γ ⟨hk,s,s',rfl⟩
  rw[iq,show min S.length G.length=G.length by omega]
  walk_at "x7"
  rw[List.length_map,List.length_map]
  by_cases e:S.length=G.length
  ·rw[show pq (S.length:Int) (G.length:Int)=false by simp only[pq,decide_eq_false_iff_not];omega]
   have e2:y4 R S G=fq R.two S G G.length:=by unfold y4;rw[if_pos e,List.append_nil]
   rw[e2] at q
   exact q
  ·rw[show pq (S.length:Int) (G.length:Int)=true by simp only[pq,decide_eq_true_eq];omega]
   have e2:y4 R S G=fq R.two S G G.length++[R.one (S.getD (S.length - 1) 0)]:=by unfold y4;rw[if_neg e]
   rw[e2,il,List.map_append] at q
   have sz:(List.map D.int (fq R.two S G G.length)).length < sizeLine:=by rw[List.length_map,pl,sizeLine_eq];omega
   dsimp only
   cases R with
   | guess=>exact absurd rfl hR
   | sum=>
    refine .inl ⟨rfl,dU.mpr ⟨_,i6 (by omega),?_⟩⟩
    walk_at "x7"
    refine⟨_,_,rfl,?_⟩
    walk_at "x7"
    exact⟨sz,q⟩
   | half=>
    refine .inr (.inl ⟨rfl,dU.mpr ⟨_,i6 (by omega),?_⟩⟩)
    walk_at "x7"
    refine⟨_,_,rfl,?_⟩
    walk_at "x7"
    exact⟨sz,q⟩
   | lean=>
    refine .inr (.inr ⟨rfl,dU.mpr ⟨_,i6 (by omega),?_⟩⟩)
    walk_at "x7"
    refine⟨_,_,rfl,?_⟩
    walk_at "x7"
    exact⟨sz,q⟩
def Cj:S3:=fun Γ Q=>∃ (S D:List Int),Γ=[some (.fz (il S)),some (.fz (il D))]∧Fig S∧Fig D∧1≤D.length∧D.length≤S.length∧S.length≤D.length + 1∧S.length + D.length≤64∧Q (.fz (.bl true)) Γ
theorem uf (T:Txt K mg a):aT P w K mg base CX0 4 a.kA a.jv ["sums","differences"] (sp3 K 2 Cj):=by
 refine ok3 T.pJ t9 (hbody:=fun cdv A outer s H E hr=>⟨_,_,(aj (br (P3W.pt (fQ (cg (cb (ay (by rfl) (pU T) (hr.mono (by decide)) (by rfl) T.sS T.pG.kp T.tO (aa (P3.opd (p3v 1)) (aa (P3.opd ag) af))))) (eM (cg (cb (ay (by rfl) (pU T) (hr.mono (by decide)) (by rfl) T.sS T.pG.kp T.tO (aa (P3.opd (p3v 0)) (aa (P3.opd (ax (dm (by rfl)) (by rfl) T.z_len (by decide +kernel) (aa (bv 1) af))) af)))))))) (ak (aw fE)) a_)
   (ak (aw (vY (iL qG (P3.opd (ax (dm (by rfl)) (by rfl) T.z_len (by decide +kernel) (aa (bv 0) af))) (P3.opd (aJ (P3.opd (ax (dm (by rfl)) (by rfl) T.z_len (by decide +kernel) (aa (bv 1) af))) (P3.opd ag))) (aR _)) (su (iL qG (P3.opd (aJ (P3.opd (ax (dm (by rfl)) (by rfl) T.z_len (by decide +kernel) (aa (bv 0) af))) (P3.opd (ax (dm (by rfl)) (by rfl) T.z_len (by decide +kernel) (aa (bv 1) af))))) (P3.opd (ka (i:=64) (by rfl) T.jl)) (aR _))))))),fun Γa Q h hl=>?_⟩)
 obtain⟨S,D,rfl,f1,f2,h1,h2,h3,h4,q⟩:=h
 walk_at "x7"
 refine⟨D,1,rfl,f2,by omega,by omega,?_⟩
 walk_at "x7"
 refine⟨S,D.length,by rw[List.length_map],f1,by omega,by omega,?_⟩
 walk_at "x7"
 rw[List.length_map,List.length_map,show qa (S.length:Int) ((D.length:Int) + 1)=true by simp only[qa,decide_eq_true_eq];omega,show qa ((S.length:Int) + (D.length:Int)) 64=true by simp only[qa,decide_eq_true_eq];omega]
 exact q
def Cp (F S:List Int):List Int:=fq (fun x y=>[x,y]) F S S.length++F.drop S.length
def EZ:S3:=fun Γ Q=>∃ (F S:List Int),Γ=[some (.fz (il F)),some (.fz (il S))]∧S.length≤F.length∧F.length≤64∧Q (.fr (il (Cp F S))) Γ
theorem Et {F:List Int} {n:Nat} (h:n≤F.length):cut (F.map D.int) (some (n:Int)) none=(F.drop n).map D.int:=by
 have e:HT.sIx (F.map D.int).length 0 (some (n:Int))=n:=by
  simp only[HT.sIx,List.length_map]
  split <;> omega
 unfold cut
 rw[e,show HT.sIx (F.map D.int).length (F.map D.int).length none=F.length by simp [HT.sIx]]
 rw[List.take_of_length_le (by simp),List.map_drop]
theorem Ds (T:Txt K mg a):aT P w K mg base CX0 1 a.wO a.sY ["firsts","seconds"] (sp3 K 2 EZ):=by
 refine ok3 T.Bc oG (hbody:=fun cdv A outer s H E hr=>⟨_,_,(aj (aZ (i:=2) oG.nd rfl (Or.inl rfl) (bR aq))
   (aj (eS PassesOwn.never rfl (lY (by rfl) T.z_zip (ae (p3v 0) (ae (p3v 1) aq))) (hU (is:=[3,4]) (by rfl) (av (aA (i:=3) oG.nd rfl (Or.inl rfl)) (av (aA (i:=4) oG.nd rfl (Or.inl rfl)) b_)) rfl)
   (ak (bN (pS 2 (by rfl) (bv 2) (P3.opd (bR (ae (p3v 3) (ae (p3v 4) aq))))))))
   (ak (aw (aJ (bv 2) (P3.opd (Dh (by rfl) (bv 0) (dQ (P3.opd (ax (dm (by rfl)) (by rfl) T.z_len (by decide +kernel) (aa (bv 1) af)))) gU))))))),fun Γa Q h hl=>?_⟩)
 obtain⟨F,S,rfl,h1,h2,q⟩:=h
 walk_at "x7"
 refine⟨by rw[sizeLine_eq];omega,?_⟩
 rw[lZ]
 walk_at "x7"
 have pl:=nR (f:=fun x y=>[x,y]) (fun _ _=>rfl) (S:=F) (G:=S)
 refine⟨fun k Γ=>k≤S.length∧∃ s s',Γ=[some (.fz (il F)),some (.fz (il S)),some (.ow (il (fq (fun x y=>[x,y]) F S k))),fo s,fo s'],⟨by omega,none,none,rfl⟩,?_,?_⟩
 ·rintro k d Γ hd ⟨hk,s,s',rfl⟩
  obtain⟨l1,l2,rfl⟩:=zip_get hd
  walk_at "x7"
  refine⟨by rw[sizeLine_eq];omega,by rw[List.length_map,pl,sizeLine_eq];omega,l2,?_,⟨some _,rfl⟩,⟨some _,rfl⟩⟩
  rw[← lL,il,List.map_append];rfl
 ·rintro Γ ⟨hk,s,s',rfl⟩
  rw[iq,show min F.length S.length=S.length by omega]
  walk_at "x7"
  simp only[List.length_map]
  rw[Et h1]
  refine⟨by rw[List.length_map,pl,List.length_drop,sizeLine_eq];omega,?_⟩
  rw[← List.map_append]
  exact q
def Ku (S D:List Int):List Int:=Cp (rg (fun j=>S.getD j 0 - g9 D j) S.length) (rg (fun j=>D.getD j 0 + kf (rg (fun j=>S.getD j 0 - g9 D j) S.length) j) D.length)
def AJ (R:Rl) (S D:List Int):List Int:=match R with
 | .guess=>Ku S D
 | .lean=>y4 .lean S (rg (fun j=>D.getD j 0 + lX S j) D.length)
 | R=>y4 R S D
def zF (a:Ad) (ok:Rl→Prop):S3:=fun Γ Q=>∃ (R:Rl) (S D:List Int),Γ=[some (.fz (R.ob a)),some (.fz (il S)),some (.fz (il D))]∧ok R∧1≤D.length∧D.length≤S.length∧S.length≤D.length + 1∧S.length + D.length≤64∧Q (.fr (il (AJ R S D))) Γ
theorem lP (T:Txt K mg a):aT P w K mg base CX0 3 a.gR a.iR ["self","sums","differences"] (sp3 K 3 (zF a fun R=>R=.sum∨R=.half)):=by
 refine ok3 T.ux rX (hbody:=fun cdv A outer s H E hr=>⟨_,_,(ak (aw (P3.or (aS (by rfl) (bv 0) T.fj T.sI (iN T) (hr.mono (by decide)) T.jI (aa (P3.opd (p3v 1)) (aa (P3.opd (p3v 2)) af))) (aS (by rfl) (bv 0) T.df T.pX (iN T) (hr.mono (by decide)) T.jI (aa (P3.opd (p3v 1)) (aa (P3.opd (p3v 2)) af)))))),fun Γa Q h hl=>?_⟩)
 obtain⟨R,S,D,rfl,hR,h1,h2,h3,h4,q⟩:=h
 walk_at "x7"
 rcases hR with rfl | rfl
 ·exact .inl ⟨rfl,.sum,S,D,rfl,by simp,h2,h3,h1,by omega,q⟩
 ·exact .inr ⟨rfl,.half,S,D,rfl,by simp,h2,h3,h1,by omega,q⟩
theorem oT (T:Txt K mg a):aT P w K mg base CX0 3 a.gF a.gf ["self","sums","differences"] (sp3 K 3 (zF a (·=.guess))):=by
 refine ok3 T.qv fM (hbody:=fun cdv A outer s H E hr=>⟨_,_,(aj (fm (i:=3) fM.nd rfl rfl rfl (lY (by rfl) T.z_zip (ae (p3v 1) (ae (ay (by rfl) (xV T) (hr.mono (by decide)) (by rfl) T.AF T.xk.kp T.A7 (aa (P3.opd (p3v 2)) (aa (P3.opd (ax (dm (by rfl)) (by rfl) T.z_len (by decide +kernel) (aa (bv 1) af))) af))) aq))) eK (fun _ _ _ _ _=>(hU (is:=[0,1]) (by rfl) (av (aA (i:=0) eK.nd rfl (Or.inl rfl)) (av (aA (i:=1) eK.nd rfl (Or.inl rfl)) b_)) rfl)) (fun _ _ _ _ _=>(cG (bv 0) (bv 1))))
   (aj (fm (i:=4) fM.nd rfl rfl rfl (lY (by rfl) T.z_zip (ae (p3v 2) (ae (ay (by rfl) (sy T) (hr.mono (by decide)) (by rfl) T.uR T.qm.kp T.vh (aa (P3.opd (p3v 3)) (aa (P3.opd (ax (dm (by rfl)) (by rfl) T.z_len (by decide +kernel) (aa (bv 2) af))) af))) aq))) eL (fun _ _ _ _ _=>(hU (is:=[0,1]) (by rfl) (av (aA (i:=0) eL.nd rfl (Or.inl rfl)) (av (aA (i:=1) eL.nd rfl (Or.inl rfl)) b_)) rfl)) (fun _ _ _ _ _=>(aJ (bv 0) (bv 1))))
   (ak (aw (ay (by rfl) (Ds T) (hr.mono (by decide)) (by rfl) T.Ge T.Bc.kp T.GH (aa (P3.opd (p3v 3)) (aa (P3.opd (p3v 4)) af))))))),fun Γa Q h hl=>?_⟩)
 obtain⟨R,S,Df,rfl,hR,h1,h2,h3,h4,q⟩:=h
 subst hR
 walk_at "x7"
 unfold AY tG
 walk_at "x7"
 refine⟨Df,S.length,by rw[List.length_map],h1,trivial,by omega,?_⟩
 walk_at "x7"
 have z1:(ir (S.map D.int) ((rg (g9 Df) S.length).map D.int)).length=S.length:=by rw[iq,d7];omega
 refine⟨small (by rw[z1];omega),fun k ys Γc=>ys=(List.range k).map (fun j=>D.int (S.getD j 0 - g9 Df j))∧∃ s s',Γc=[fo s,fo s'],⟨rfl,none,none,rfl⟩,?_,?_⟩
 ·rintro k d ys Γc hd hk ⟨rfl,s,s',rfl⟩
  obtain⟨l1,l2,rfl⟩:=zip_get hd
  rw[d7] at l2
  walk_at "x7"
  exact⟨snoc (by rw[nP _ l2]),⟨some _,rfl⟩,⟨some _,rfl⟩⟩
 ·rintro ys Γc hk ⟨rfl,s,s',rfl⟩
  rw[z1,lF]
  walk_at "x7"
  refine⟨rg (fun j=>S.getD j 0 - g9 Df j) S.length,Df.length,by rw[List.length_map];rfl,by rw[d7];omega,by rw[d7];omega,by omega,?_⟩
  walk_at "x7"
  have z3:(ir (Df.map D.int) ((rg (kf (rg (fun j=>S.getD j 0 - g9 Df j) S.length)) Df.length).map D.int)).length=Df.length:=by rw[iq,d7];omega
  refine⟨small (by rw[z3];omega),fun k ys Γc=>ys=(List.range k).map (fun j=>D.int (Df.getD j 0 + kf (rg (fun j=>S.getD j 0 - g9 Df j) S.length) j))∧∃ s s',Γc=[fo s,fo s'],⟨rfl,none,none,rfl⟩,?_,?_⟩
  ·rintro k d ys Γc hd hk ⟨rfl,s,s',rfl⟩
   obtain⟨l1,l2,rfl⟩:=zip_get hd
   rw[d7] at l2
   walk_at "x7"
   exact⟨snoc (by rw[nP _ l2]),⟨some _,rfl⟩,⟨some _,rfl⟩⟩
  ·rintro ys Γc hk ⟨rfl,s,s',rfl⟩
   rw[z3,lF]
   walk_at "x7"
   exact⟨_,_,rfl,by simp;omega,by simp;omega,q⟩
theorem oQ (T:Txt K mg a):aT P w K mg base CX0 3 a.gD a.fZ ["self","sums","differences"] (sp3 K 3 (zF a (·=.lean))):=by
 refine ok3 T.qq jd (hbody:=fun cdv A outer s H E hr=>⟨_,_,(aj (fm (i:=3) jd.nd rfl rfl rfl (lY (by rfl) T.z_zip (ae (p3v 2) (ae (ay (by rfl) (xW T) (hr.mono (by decide)) (by rfl) T.AG T.xl.kp T.A8 (aa (P3.opd (p3v 1)) (aa (P3.opd (ax (dm (by rfl)) (by rfl) T.z_len (by decide +kernel) (aa (bv 2) af))) af))) aq))) eF (fun _ _ _ _ _=>(hU (is:=[0,1]) (by rfl) (av (aA (i:=0) eF.nd rfl (Or.inl rfl)) (av (aA (i:=1) eF.nd rfl (Or.inl rfl)) b_)) rfl)) (fun _ _ _ _ _=>(aJ (bv 0) (bv 1))))
   (ak (aw (aS (by rfl) (bv 0) T.cM T.oV (iN T) (hr.mono (by decide)) T.jI (aa (P3.opd (p3v 1)) (aa (P3.opd (p3v 3)) af)))))),fun Γa Q h hl=>?_⟩)
 obtain⟨R,S,Df,rfl,hR,h1,h2,h3,h4,q⟩:=h
 subst hR
 walk_at "x7"
 unfold AY tG
 walk_at "x7"
 refine⟨S,Df.length,by rw[List.length_map],by omega,trivial,by omega,?_⟩
 walk_at "x7"
 have z1:(ir (Df.map D.int) ((rg (lX S) Df.length).map D.int)).length=Df.length:=by rw[iq,d7];omega
 refine⟨small (by rw[z1];omega),fun k ys Γc=>ys=(List.range k).map (fun j=>D.int (Df.getD j 0 + lX S j))∧∃ s s',Γc=[fo s,fo s'],⟨rfl,none,none,rfl⟩,?_,?_⟩
 ·rintro k d ys Γc hd hk ⟨rfl,s,s',rfl⟩
  obtain⟨l1,l2,rfl⟩:=zip_get hd
  rw[d7] at l2
  walk_at "x7"
  exact⟨snoc (by rw[nP _ l2]),⟨some _,rfl⟩,⟨some _,rfl⟩⟩
 ·rintro ys Γc hk ⟨rfl,s,s',rfl⟩
  rw[z1,lF]
  walk_at "x7"
  exact⟨rfl,.lean,S,_,rfl,by simp,by simp;omega,by simp;omega,by simp;omega,by omega,q⟩
def i4 (a:Ad):S3:=fun Γ Q=>∃ (R:Rl) (S D:List Int),Γ=[some (.fz (R.ob a)),some (.fz (il S)),some (.fz (il D))]∧Fig S∧Fig D∧1≤D.length∧D.length≤S.length∧S.length≤D.length + 1∧S.length + D.length≤64∧Q (.fr (il (AJ R S D))) Γ
theorem iw (T:Txt K mg a):aT P w K mg base CX0 5 a.fG a.ku ["self","sums","differences"] (sp3 K 3 (i4 a)):=by
 refine ok3 T.yM vI (hbody:=fun cdv A outer s H E hr=>⟨_,_,(aj (br (cg (cb (ay (by rfl) (uf T) (hr.mono (by decide)) (by rfl) T.wk T.pJ.kp T.xc (aa (P3.opd (p3v 1)) (aa (P3.opd (p3v 2)) af))))) (ak gT) a_)
   (ak (aw (P3.or (aS (by rfl) (bv 0) T.fj T.sL (lP T) (hr.mono (by decide)) T.nL (aa (P3.opd (p3v 1)) (aa (P3.opd (p3v 2)) af))) (P3.or (aS (by rfl) (bv 0) T.df T.pZ (lP T) (hr.mono (by decide)) T.nL (aa (P3.opd (p3v 1)) (aa (P3.opd (p3v 2)) af))) (P3.or (aS (by rfl) (bv 0) T.gG T.o9 (oT T) (hr.mono (by decide)) T.qj (aa (P3.opd (p3v 1)) (aa (P3.opd (p3v 2)) af))) (aS (by rfl) (bv 0) T.cM T.oX (oQ T) (hr.mono (by decide)) T.qh (aa (P3.opd (p3v 1)) (aa (P3.opd (p3v 2)) af))))))))),fun Γa Q h hl=>?_⟩)
 obtain⟨R,S,Df,rfl,f1,f2,h1,h2,h3,h4,q⟩:=h
 walk_at "x7"
 refine⟨S,Df,rfl,f1,f2,h1,h2,h3,h4,?_⟩
 walk_at "x7"
 cases R with
 | sum=>exact .inl ⟨rfl,.sum,S,Df,rfl,.inl rfl,h1,h2,h3,h4,q⟩
 | half=>exact .inr (.inl ⟨rfl,.half,S,Df,rfl,.inr rfl,h1,h2,h3,h4,q⟩)
 | guess=>exact .inr (.inr (.inl ⟨rfl,.guess,S,Df,rfl,rfl,h1,h2,h3,h4,q⟩))
 | lean=>exact .inr (.inr (.inr ⟨rfl,.lean,S,Df,rfl,rfl,h1,h2,h3,h4,q⟩))
def Jr:S3:=fun Γ Q=>∃ (ns:List Int) (k:Int),Γ=[some (.fz (.scr ns)),some (.fz (.int k))]∧0≤k∧∀ r,Q (.fz (.int r)) Γ
theorem v_ (T:Txt K mg a):aT P w K mg base CX0 1 a.mv a.kq ["_law_script","_law_k"] (sp3 K 2 Jr):=by
 refine ok3 T.qV vG (hbody:=fun cdv A outer s H E hr=>⟨_,_,(aj (br (aI A4 (bv 1) (P3.opd (ax (dm (by rfl)) (by rfl) T.z_len (by decide +kernel) (aa (bv 0) af))) (aR _)) (ak (aw (bz (by rfl) (bv 0) (bv 1) (fun _ _=>rfl)))) a_)
   (ak (aw (aJ (P3.opd (g0 (P3.opd ag) (bv 1))) (P3.opd ag))))),fun Γa Q h hl=>?_⟩)
 obtain⟨ns,k,rfl,hk,q⟩:=h
 walk_at "x7"
 by_cases h:k < (ns.length:Int)
 ·simp only[zV,h,decide_true]
  exact⟨_,GN hk h,q _⟩
 ·simp only[zV,h,decide_false]
  exact⟨.inl ⟨by decide,by decide⟩,q _⟩
def Box (c:Int) (d:D):Prop:=∃ x m k:Int,d=.lst [.int x,.int m,.int k]∧0≤x∧0≤m∧m < 2147483647∧0≤k∧k≤c
def K4:S3:=fun Γ Q=>∃ (x:Int),Γ=[some (.fz (.int x))]∧∀ d,Box 0 d→Q (.fr d) Γ
theorem xY (T:Txt K mg a):aT P w K mg base CX0 1 a.om a.mf ["_law_cell_here"] (sp3 K 1 K4):=by
 refine ok3 T.tV xy (hbody:=fun cdv A outer s H E hr=>⟨_,_,(ak (aw (bR (ae (ax (EG rfl) (by rfl) T.z_max (by decide +kernel) (aa (P3.opd ag) (aa (P3.opd (cG (bv 0) (P3.opd (Iu (v:=1000000000000000000) (by decide +kernel) ⟨by decide,by decide,by decide⟩)))) af))) (ae (nU (bv 0) (P3.opd ag)) (ae ag aq)))))),fun Γa Q h hl=>?_⟩)
 obtain⟨x,rfl,q⟩:=h
 walk_at "x7"
 exact⟨by decide,by rw[sizeLine_eq];omega,q _ ⟨_,_,_,rfl,by unfold fmax;split <;> omega,Int.emod_nonneg _ (by decide),Int.emod_lt_of_pos _ (by decide),by decide,by decide⟩⟩
def HF:S3:=fun Γ Q=>∃ (d:D) (c n:Int),Γ=[some (.ln d),some (.fz (.int n))]∧Box c d∧c≤100∧0 < n∧n≤1000000000∧∀ r d',0≤r→r < n→Box (c + 1) d'→Q (.fz (.int r)) [some (.ln d'),some (.fz (.int n))]
theorem cC (T:Txt K mg a):aT P w K mg base CX0 1 a.mn a.km ["_law_box_here","_law_many_here"] (sp3 K 2 HF):=by
 refine ok3 T.cH fK (hbody:=fun cdv A outer s H E hr=>⟨_,_,(aj (br (aI tJ (P3.opd (bz (by rfl) (bv 0) (P3.opd ag) (fun _ _=>rfl))) (P3.opd ag) (aR _)) (aj (aZ (i:=2) fK.nd rfl (Or.inl rfl) (nU (P3.opd (bz (by rfl) (bv 0) (P3.opd ag) (fun _ _=>rfl))) (bv 1)))
   (aj (r_ 0 (bv 0) (P3.opd ag) (cI (P3.opd (bz (by rfl) (bv 0) (P3.opd ag) (fun _ _=>rfl))) (bv 1)))
   (ak (aw (pR 2))))) a_)
   (aj (r_ 0 (bv 0) (P3.opd ag) (aJ (P3.opd (bz (by rfl) (bv 0) (P3.opd ag) (fun _ _=>rfl))) (P3.opd ag)))
   (aj (aZ (i:=3) fK.nd rfl (Or.inl rfl) (aJ (P3.opd (aJ (P3.opd (g0 (P3.opd (bz (by rfl) (bv 0) (P3.opd ag) (fun _ _=>rfl))) (P3.opd (aJ (P3.opd ag) (P3.opd (g0 (P3.opd ag) (P3.opd (bz (by rfl) (bv 0) (P3.opd ag) (fun _ _=>rfl))))))))) (P3.opd (g0 (P3.opd ag) (P3.opd (bz (by rfl) (bv 0) (P3.opd ag) (fun _ _=>rfl))))))) (P3.opd ag)))
   (aj (aZ (i:=4) fK.nd rfl (Or.inl rfl) (nU (P3.opd (FO (bv 3) (P3.opd ag))) (P3.opd ag)))
   (aj (aZ (i:=4) fK.nd rfl (Or.inl rfl) (nU (P3.opd (g0 (P3.opd (aJ (bv 4) (P3.opd (g0 (P3.opd ag) (P3.opd (bz (by rfl) (bv 0) (P3.opd ag) (fun _ _=>rfl))))))) (P3.opd (aJ (bv 4) (P3.opd ag))))) (P3.opd ag)))
   (ak (aw (nU (P3.opd (cI (bv 4) (P3.opd ag))) (bv 1))))))))),fun Γa Q h hl=>?_⟩)
 obtain⟨_,c,n,rfl,⟨x,m,k,rfl,hx,hm,hm2,hk,hk2⟩,hc,hn,hn2,q⟩:=h
 walk_at "x7"
 by_cases e:0 < x
 ·simp only[pq,e,decide_true]
  exact⟨hn,⟨hn,by omega⟩,q _ _ (Int.emod_nonneg _ (by omega)) (Int.emod_lt_of_pos _ hn) ⟨_,_,_,rfl,Int.ediv_nonneg hx (by omega),hm,hm2,hk,by omega⟩⟩
 ·simp only[pq,e,decide_false]
  have p1:0≤m * (48271 + 2 * (k + 1)):=Int.mul_nonneg hm (by omega)
  have p2:m * (48271 + 2 * (k + 1))≤2147483647 * (48271 + 2 * (k + 1)):=Int.mul_le_mul_of_nonneg_right (by omega) (by omega)
  refine⟨.inl ⟨by decide,by decide⟩,.inl ⟨by omega,by omega⟩,.inl ⟨by decide,by decide⟩,⟨by decide,by decide,?_⟩,?_⟩
  ·show (m * (48271 + 2 * (k + 1)) + 7919 * (k + 1) + 11).natAbs < 2 ^ 64
   omega
  generalize hy:(m * (48271 + 2 * (k + 1)) + 7919 * (k + 1) + 11) ^ Int.toNat 5 % 2147483629=y
  have hy0:0≤y:=by rw[← hy];exact Int.emod_nonneg _ (by decide)
  have hy1:y < 2147483629:=by rw[← hy];exact Int.emod_lt_of_pos _ (by decide)
  exact⟨by decide,.inl ⟨by decide,by decide⟩,.inr ⟨by omega,by omega⟩,by decide,⟨by decide,by decide⟩,hn,q _ _ (Int.emod_nonneg _ (by omega)) (Int.emod_lt_of_pos _ hn) ⟨_,_,_,rfl,hx,hm,hm2,by omega,by omega⟩⟩
theorem pick {p:D→Prop} {xs:List D} {r:Int} {k:D→Prop} {t:Tag k} (h0:0≤r) (h1:r < (xs.length:Int)) (hp:∀ x∈xs,p x) (q:∀ v,p v→k v):m1 (atI xs r) k t:=by
 obtain⟨d,h2,h3⟩:=GP h0 h1
 exact dU.mpr ⟨d,h2,q d (hp d h3)⟩
def Fb:S3:=fun Γ Q=>∃ (d:D),Γ=[some (.ln d)]∧Box 0 d∧∀ h w d',iE h w→Box 3 d'→Q (.fz (pD h w)) [some (.ln d')]
theorem Box.up {c c':Int} {d:D} (b:Box c d) (h:c≤c'):Box c' d:=by
 obtain⟨x,m,k,e,h1,h2,h3,h4,h5⟩:=b
 exact⟨x,m,k,e,h1,h2,h3,h4,Int.le_trans h5 h⟩
theorem Err:(Lt.r == Lt.r)=true:=rfl
theorem Erp:(Lt.r == Lt.p)=false:=rfl
theorem Erb:(Lt.r == Lt.b)=false:=rfl
theorem Epr:(Lt.p == Lt.r)=false:=rfl
theorem Epp:(Lt.p == Lt.p)=true:=rfl
theorem Epb:(Lt.p == Lt.b)=false:=rfl
theorem Ebr:(Lt.b == Lt.r)=false:=rfl
theorem Ebp:(Lt.b == Lt.p)=false:=rfl
theorem Ebb:(Lt.b == Lt.b)=true:=rfl
theorem yI:Str.ofString "r"++Str.ofString "p"++Str.ofString "b"=wy [.r,.p,.b]:=by decide +kernel
theorem S_r:Str.ofString "r"++Str.empty++Str.empty=wy [.r]:=by decide +kernel
theorem S_p:Str.empty++Str.ofString "p"++Str.empty=wy [.p]:=by decide +kernel
theorem S_0:Str.empty++Str.empty++Str.empty=wy []:=by decide +kernel
theorem yH:(wy [.r,.p,.b] == Str.ofString "")=false:=by decide +kernel
theorem V_r:(wy [.r] == Str.ofString "")=false:=by decide +kernel
theorem V_p:(wy [.p] == Str.ofString "")=false:=by decide +kernel
theorem V_0:(wy [] == Str.ofString "")=true:=by decide +kernel
theorem LM:(Str.ofString "half"=Str.ofString "sum")=False:=eq_false (by decide +kernel)
theorem LN:(Str.ofString "half"=Str.ofString "guess")=False:=eq_false (by decide +kernel)
theorem LK:(Str.ofString "lean"=Str.ofString "sum")=False:=eq_false (by decide +kernel)
theorem LL:(Str.ofString "lean"=Str.ofString "guess")=False:=eq_false (by decide +kernel)
theorem LO:(Str.ofString "guess"=Str.ofString "sum")=False:=eq_false (by decide +kernel)
theorem LP:(Str.ofString "sum" == Str.ofString "lean")=false:=by decide +kernel
theorem LQ:(Str.ofString "half" == Str.ofString "lean")=false:=by decide +kernel
theorem LR:(Str.ofString "guess" == Str.ofString "lean")=false:=by decide +kernel
theorem K7 {c:Bool} {x y:D}:atI [x,y] (if c=true then 1 else 0)=some (if c=true then y else x):=by cases c <;> rfl
def Rl.sel (R:Rl) (x1 x2 x3 x4:S3):S3:=match R with
 | .sum=>x1 | .half=>x2 | .guess=>x3 | .lean=>x4
def or4 (a:Ad) (m:Str) (n:Nat) (x1 x2 x3 x4:S3) (o3:TB3) (t3:j4) (Γ:G) (Q:RV→G→Prop) (_:Tag (m,n,x1,x2,x3,x4)) (_:Tag (o3,t3,Q)):Prop:=ji a.bj m n x1 o3 t3 Γ Q∨ji a.aH m n x2 o3 t3 Γ Q∨ji a.aC m n x3 o3 t3 Γ Q∨ji a.aB m n x4 o3 t3 Γ Q
theorem Kg {m:Str} {n:Nat} {x1 x2 x3 x4:S3} {o3:TB3} {t3:j4} {Γ:G} {Q:RV→G→Prop}:(ji a.bj m n x1 o3 t3 Γ Q∨ji a.aH m n x2 o3 t3 Γ Q∨ji a.aC m n x3 o3 t3 Γ Q∨ji a.aB m n x4 o3 t3 Γ Q)=or4 a m n x1 x2 x3 x4 o3 t3 Γ Q ⟨⟩ ⟨⟩:=rfl
theorem sx {m:Str} {n:Nat} {x1 x2 x3 x4:S3} {o3:TB3} {t3:j4} {Γ:G} {Q:RV→G→Prop} {s:Tag (m,n,x1,x2,x3,x4)} {t:Tag (o3,t3,Q)} (R:Rl) (h:ji (R.cls a) m n (R.sel x1 x2 x3 x4) o3 t3 Γ Q):or4 a m n x1 x2 x3 x4 o3 t3 Γ Q s t:=by
 cases R
 ·exact .inl h
 ·exact .inr (.inl h)
 ·exact .inr (.inr (.inl h))
 ·exact .inr (.inr (.inr h))
theorem rE {ls:List Lt} {i:Int} {l:Lt} {k:Lt→Prop} {t:Tag k} (z:(wy ls).length≤sizeLine) (h:atI ls i=some l) (q:k l):HE ls i k t:=⟨z,l,h,q⟩
theorem z1:1≤sizeLine:=by rw[sizeLine_eq];decide
theorem z2:2≤sizeLine:=by rw[sizeLine_eq];decide
theorem z3:3≤sizeLine:=by rw[sizeLine_eq];decide
theorem z0:0 < sizeLine:=by rw[sizeLine_eq];decide
theorem z4:4≤sizeLine:=by rw[sizeLine_eq];decide
theorem z6:6≤sizeLine:=by rw[sizeLine_eq];decide
theorem six {v:D} (h:v∈[D.tup [.int 64,.int 8],.tup [.int 8,.int 64],.tup [.int 1,.int 64],.tup [.int 64,.int 1],.tup [.int 22,.int 23],.tup [.int 17,.int 30]]):∃ h w,v=pD h w∧iE h w:=by
 simp only[List.mem_cons,List.not_mem_nil,or_false] at h
 rcases h with rfl | rfl | rfl | rfl | rfl | rfl <;> exact⟨_,_,rfl,by decide,by decide,by decide,by decide,by decide⟩
theorem size_of {x y:Int} (h1:0≤x) (h2:x < 64) (h3:0≤y) (h4:y < fmin 64 (512 / (1 + x))):iE (1 + x) (1 + y):=by
 have e:fmin 64 (512 / (1 + x))≤64∧fmin 64 (512 / (1 + x))≤512 / (1 + x):=by unfold fmin;split <;> omega
 have e2:(1 + x) * (1 + y)≤(1 + x) * (512 / (1 + x)):=Int.mul_le_mul_of_nonneg_left (by omega) (by omega)
 have e3:(1 + x) * (512 / (1 + x))≤512:=Int.mul_ediv_self_le (by omega)
 exact⟨by omega,by omega,by omega,by omega,by omega⟩
theorem JQ {x y:Int} (h1:0≤x) (h2:x < 9) (h3:0≤y) (h4:y < 9):iE (1 + x) (1 + y):=by
 have e2:(1 + x) * (1 + y)≤9 * 9:=Int.mul_le_mul (by omega) (by omega) (by omega) (by omega)
 exact⟨by omega,by omega,by omega,by omega,by omega⟩
local macro_rules | `(tactic| walk_at "xb")=>do `(tactic| try simp -dsimp only [$(←mkL "iI List.length_cons List.length_nil Nat.reduceAdd Nat.reduceSub Nat.zero_add List.replicate List.cons_append List.nil_append List.append_nil ↓u6 ↓p6 ↓u5 ↓D8 ↓Eb ↓u7 ↓Cf ↓Cg ↓Cd ↓Ce FL ↓D7 ↓lB ↓yT mP ↓sT ↓sU ↓kI ↓mY ↓p5 ↓D4 ↓KN ↓KL ↓zL ↓D_ ↓h_c uF Bn ↓u4 ↓Hr ↓KI ↓Hn qL FV AA ↓KJ ↓Ea ↓D5 Gat Bo.at ats RV.d RV.sl uu i2 i2' uk eq3 eqS ↓AL ↓DV jk ke wq wt wA BU mx3 Jx wD DC n4 zQ zN zO n5 sl3 E_ ↓D9 ↓D6 DQ nZ rO is3 knD dB dI dL dT ↓Hq ext3 yP nA vj ↓Hg beq_self_eq_true i28 sEb Err Erp Erb Epr Epp Epb Ebr Ebp Ebb sEr sEp E9 KY xD ↓Hh ↓Hi Kr Kp Km Kq Kl Ko yn List.zip_cons_cons List.lookup_cons List.lookup_nil ↓vB sG ph ↓DJ wJ ↓A2 zR ↓DY wa ↓yU sE ↓zY ↓wX Gs Gr Gq tgP dS Fw Ar Gn GK xE CF RV.fz.injEq ↓vA ck putD tgN tgT gives frees iL3 iR1 iR2 iZ3 iE3 lz3 ES ↓mZ ↓w4 ↓tF ↓zS List.isEmpty_nil List.isEmpty_cons ↓Ec ↓AS Ej tu ↓Ho ↓DG fA jY fI ej dz List.map_cons List.map_nil Option.bind_some Option.bind_none List.nodup_nil List.nodup_cons List.getElem?_cons_zero List.getElem?_cons_succ List.getElem?_nil List.set_cons_zero List.set_cons_succ exists_eq_left' exists_eq_left exists_eq' exists_eq exists_and_left exists_and_right Option.some.injEq D.int.injEq D.lst.injEq D.str.injEq D.tup.injEq D.bl.injEq D.ins.injEq D.ty.injEq List.cons.injEq and_true true_and and_false false_and true_or false_or or_false or_true and_assoc List.not_mem_nil not_false_eq_true ox tD Ca uj Ek tq El jN Bool.false_xor Bool.not_true Bool.not_false Bool.true_xor m5 List.mapIdx_cons List.mapIdx_nil cm GI Jt Ju GJ Jw Jv zP ite_self newD Option.getD_some Option.getD_none ER EO EN EM zI zH zG if_pos if_true if_false List.all_cons List.all_nil Option.isNone_none Bool.and_true Bool.true_and decide_eq_true_eq not_true not_false_iff reduceCtorEq eq_self Bool.false_eq_true reduceIte Int.reduceEq yI S_r S_p S_0 yH V_r V_p V_0 LM LN LK LL LO LP LQ LR K7 ↓Kg"),*])
theorem v8 (T:Txt K mg a):aT P w K mg base CX0 2 a.mq a.kn ["_law_box_here"] (sp3 K 1 Fb):=by
 refine ok3 T.qT j7 (hbody:=fun cdv A outer s H E hr=>⟨_,_,(aj (aZ (i:=1) j7.nd rfl (Or.inl rfl) (ay (by rfl) (cC T) (hr.mono (by decide)) (by rfl) T.c_ T.cH.kp T.da (aa (bv 0) (aa (P3.opd ag) af))))
   (aj (br (aI A4 (bv 1) (P3.opd ag) (aR _)) (ak (aw (bz (by rfl) (P3.opd (bR (ae (bL (ae ag (ae ag aq))) (ae (bL (ae ag (ae ag aq))) (ae (bL (ae ag (ae ag aq))) (ae (bL (ae ag (ae ag aq))) (ae (bL (ae ag (ae ag aq))) (ae (bL (ae ag (ae ag aq))) aq)))))))) (bv 1) (fun _ _=>rfl)))) a_)
   (aj (br (aI (gn (by rfl) hr) (bv 1) (P3.opd ag) (aR _)) (aj (aZ (i:=2) j7.nd rfl (Or.inl rfl) (aJ (P3.opd ag) (P3.opd (ay (by rfl) (cC T) (hr.mono (by decide)) (by rfl) T.c_ T.cH.kp T.da (aa (bv 0) (aa (P3.opd ag) af))))))
   (ak (aw (bL (ae (p3v 2) (ae (aJ (P3.opd ag) (P3.opd (ay (by rfl) (cC T) (hr.mono (by decide)) (by rfl) T.c_ T.cH.kp T.da (aa (bv 0) (aa (P3.opd (ax (EF rfl) (by rfl) T.z_min (by decide +kernel) (aa (P3.opd ag) (aa (P3.opd (cI (P3.opd ag) (bv 2))) af)))) af))))) aq)))))) a_)
   (ak (aw (bL (ae (aJ (P3.opd ag) (P3.opd (ay (by rfl) (cC T) (hr.mono (by decide)) (by rfl) T.c_ T.cH.kp T.da (aa (bv 0) (aa (P3.opd ag) af))))) (ae (aJ (P3.opd ag) (P3.opd (ay (by rfl) (cC T) (hr.mono (by decide)) (by rfl) T.c_ T.cH.kp T.da (aa (bv 0) (aa (P3.opd ag) af))))) aq)))))))),fun Γa Q h hl=>?_⟩)
 obtain⟨d,rfl,hb,q⟩:=h
 walk_at "xb"
 refine⟨_,_,12,rfl,hb,by decide,by decide,by decide,fun r1 d1 l1 u1 b1=>?_⟩
 walk_at "xb"
 refine jo (fun h=>?_) (fun h=>?_)
 ·simp -dsimp -implicitDefEqProofs only[↓D8,↓lB,↓sU,↓Ea,↓zL,↓D5,↓h_c,↓D_,RV.d,List.length_cons,List.length_nil,Nat.zero_add,Nat.reduceAdd,↓sT,Gat,cm,List.map_cons,List.map_nil,dz,newD,iI,Nat.reduceSub,List.replicate,List.cons_append,List.nil_append,List.mapIdx_cons,if_pos,GJ,Option.getD_some,reduceCtorEq,if_false,GI,List.mapIdx_nil,RV.sl,List.set_cons_succ,List.set_cons_zero,List.getElem?_cons_succ,List.getElem?_cons_zero,Option.some.injEq,exists_eq',Bo.at,jk,↓AL,true_and]
  have h':r1 < 6:=of_decide_eq_true h
  refine⟨z2,z2,z2,z2,z2,z2,z6,pick l1 h' (fun v hv=>six hv) (fun v hv=>?_)⟩
  obtain⟨h,w,rfl,sz⟩:=hv
  walk_at "xb"
  exact q _ _ _ sz (b1.up (by decide))
 ·walk_at "xb"
  refine jo (fun h=>?_) (fun h=>?_)
  ·walk_at "xb"
   refine⟨_,_,64,rfl,b1,by decide,by decide,by decide,fun r2 d2 l2 u2 b2=>?_⟩
   walk_at "xb"
   have p:1≤512 / (1 + r2):=Int.le_ediv_of_mul_le (by omega) (by omega)
   refine⟨⟨by omega,by omega⟩,_,_,_,rfl,b2,by decide,by unfold fmin;split <;> omega,by unfold fmin;split <;> omega,fun r3 d3 l3 u3 b3=>?_⟩
   walk_at "xb"
   exact⟨z2,q _ _ _ (size_of l2 u2 l3 u3) (b3.up (by decide))⟩
  ·walk_at "xb"
   refine⟨_,_,9,rfl,b1,by decide,by decide,by decide,fun r2 d2 l2 u2 b2=>?_⟩
   walk_at "xb"
   refine⟨_,_,9,rfl,b2,by decide,by decide,by decide,fun r3 d3 l3 u3 b3=>?_⟩
   walk_at "xb"
   exact⟨z2,q _ _ _ (JQ l2 u2 l3 u3) (b3.up (by decide))⟩
def JC:S3:=fun Γ Q=>∃ (d:D) (h w:Int),Γ=[some (.ln d),some (.fz (pD h w))]∧iE h w∧Box 4 d∧∀ ls d',ls.length≤10→Good h w ls→Box 15 d'→Q (.fz (.str (wy ls))) [some (.ln d'),some (.fz (pD h w))]
theorem C8 {ls:List Lt} {r:Int} {k:Lt→Prop} {t:Tag k} (h0:0≤r) (h1:r < (ls.length:Int)) (z:ls.length≤sizeLine) (q:∀ l∈ls,k l):HE ls r k t:=by
 refine rE (l:=ls[r.toNat]) (by rw[b8];exact z) (jX h0 (List.getElem?_eq_getElem (by omega))) (q _ (List.getElem_mem _))
theorem vo (ls:List Lt) (l:Lt):wy ls++l.s=wy (ls++[l]):=by
 show (⟨(wy ls).cps++l.s.cps⟩:Str)=_
 unfold wy
 congr 1
 rw[List.map_append]
 cases l <;> simp [Lt.s,sgn]
theorem u9:∀ {ls:List Lt} {h w:Int} {l:Lt},Good h w ls→Can l (cat h w ls ls.length).1 (cat h w ls ls.length).2→Good h w (ls++[l])∧cat h w (ls++[l]) (ls++[l]).length=(nh l (cat h w ls ls.length).1,nw l (cat h w ls ls.length).2)
 | [],h,w,l,_,c=>⟨⟨c,trivial⟩,rfl⟩
 | m::ls,h,w,l,g,c=>by
  obtain⟨i1,i2⟩:=u9 (ls:=ls) (h:=nh m h) (w:=nw m w) (l:=l) g.2 c
  exact⟨⟨g.1,i1⟩,i2⟩
theorem xX (T:Txt K mg a):aT P w K mg base CX0 2 a.oi a.me ["_law_box_here","_law_size_here"] (sp3 K 2 JC):=by
 refine ok3 T.tU cO (hbody:=fun cdv A outer s H E hr=>⟨_,_,(aj (iu (is:=[2,3]) (by rfl) (p3v 1) (av (aA (i:=2) cO.nd rfl (Or.inl rfl)) (av (aA (i:=3) cO.nd rfl (Or.inl rfl)) b_)) rfl)
   (aj (aZ (i:=4) cO.nd rfl (Or.inl rfl) bA)
   (aj (eS PassesOwn.never rfl (eN (by rfl) T.z_range (ae (ay (by rfl) (cC T) (hr.mono (by decide)) (by rfl) T.c_ T.cH.kp T.da (aa (bv 0) (aa (P3.opd ag) af))) aq)) (cE (i:=5) cO.nd rfl (Or.inl rfl))
   (aj (aZ (i:=6) cO.nd rfl (Or.inl rfl) (aJ (P3.opd (aJ (P3.opd (vX (P3.opd bA) (P3.opd (iF yu (by rfl) T.z_int (by decide +kernel) (aa (P3.opd (iL tJ (bv 3) (P3.opd ag) (aR _))) af))))) (P3.opd (vX (P3.opd bA) (P3.opd (iF yu (by rfl) T.z_int (by decide +kernel) (aa (P3.opd (iL tJ (bv 2) (P3.opd ag) (aR _))) af))))))) (P3.opd (vX (P3.opd bA) (P3.opd (iF yu (by rfl) T.z_int (by decide +kernel) (aa (P3.opd (vY (iL tJ (bv 3) (P3.opd ag) (aR _)) (su (iL tJ (bv 2) (P3.opd ag) (aR _))))) af)))))))
   (ak (br (aI (ee (by rfl) hr) (bv 6) (P3.opd bA) (aR _)) (aj (aZ (i:=7) cO.nd rfl (Or.inl rfl) (bz (by rfl) (bv 6) (P3.opd (ay (by rfl) (cC T) (hr.mono (by decide)) (by rfl) T.c_ T.cH.kp T.da (aa (bv 0) (aa (P3.opd (ax (dm (by rfl)) (by rfl) T.z_len (by decide +kernel) (aa (bv 6) af))) af)))) (fun _ _=>rfl)))
   (aj (aZ (i:=4) cO.nd rfl (Or.inl rfl) (aJ (bv 4) (bv 7)))
   (aj (aZ (i:=3) cO.nd rfl (Or.inl rfl) (bz (by rfl) (P3.opd (bR (ae (p3v 3) (ae (cI (P3.opd (aJ (bv 3) (P3.opd ag))) (P3.opd ag)) aq)))) (P3.opd (iF yu (by rfl) T.z_int (by decide +kernel) (aa (P3.opd (iL (ee (by rfl) hr) (bv 7) (P3.opd bA) (aR _))) af))) (fun _ _=>rfl)))
   (ak (aZ (i:=2) cO.nd rfl (Or.inl rfl) (bz (by rfl) (P3.opd (bR (ae (p3v 2) (ae (cI (P3.opd (aJ (bv 2) (P3.opd ag))) (P3.opd ag)) aq)))) (P3.opd (iF yu (by rfl) T.z_int (by decide +kernel) (aa (P3.opd (iL (ee (by rfl) hr) (bv 7) (P3.opd bA) (aR _))) af))) (fun _ _=>rfl))))))) a_))))
   (ak (aw (pR 4)))))),fun Γa Q h hl=>?_⟩)
 obtain⟨d,h,w,rfl,sz,hb,q⟩:=h
 walk_at "xb"
 refine⟨_,_,11,rfl,hb,by decide,by decide,by decide,fun r1 d1 l1 u1 b1=>?_⟩
 walk_at "xb"
 refine⟨by omega,by omega,dF (fun k Γ=>∃ ls d s5 s6 s7,ls.length≤k∧Good h w ls∧Box (5 + k) d∧Γ=[some (.ln d),some (.fz (pD h w)),some (.fz (.int (cat h w ls ls.length).1)),some (.fz (.int (cat h w ls ls.length).2)),some (.fz (.str (wy ls))),fo s5,fo s6,fo s7]) ⟨[],d1,none,none,none,Nat.le_refl _,trivial,b1.up (by decide),rfl⟩ ?_ ?_⟩
 ·rintro k d Γ hd ⟨ls,d,s5,s6,s7,hk,g,hb,rfl⟩
  obtain⟨lk,rfl⟩:=fP hd
  obtain⟨p1,p2,_,_⟩:=gm (k:=ls.length) g sz.h1 sz.w1 (Nat.le_refl _)
  have hsn:∀ l,Can l (cat h w ls ls.length).1 (cat h w ls ls.length).2→Good h w (ls++[l])∧cat h w (ls++[l]) (ls++[l]).length=(nh l (cat h w ls ls.length).1,nw l (cat h w ls ls.length).2):=fun l c=>u9 g c
  generalize hc:cat h w ls ls.length=c at p1 p2 hsn ⊢
  obtain⟨H,W⟩:=c
  dsimp only at p1 p2 hsn ⊢
  cases eW:pq W 1
  ·cases eH:pq H 1
   ·simp -dsimp only[tgN,n4,n5,↓u6,↓u5,↓lB,↓sU,↓h_c,↓kI,↓mY,↓sT,Gat,List.set_cons_succ,List.set_cons_zero,List.getElem?_cons_succ,List.getElem?_cons_zero,Option.some.injEq,exists_eq',Bo.at,jk,RV.d,uk,i2',↓p5,ats,eW,ke,wD,if_pos,nA,Int.reduceEq,or_true,eH,Bool.false_eq_true,if_false,or_false,uu,qL,↓u7,↓Cf,↓Cg,↓u4,RV.sl,S_0,S_r,S_p,yI,uj,Nat.reduceAdd,tq,V_0,V_r,V_p,yH,Bool.true_xor,exists_eq_left',Bool.not_false,Bool.not_true,↓Cd,↓Ce,↓p6,↓mZ,wA,List.length_cons,List.length_nil,Nat.zero_add,ej,List.nodup_cons,List.not_mem_nil,not_false_eq_true,List.nodup_nil,and_true,fA,List.map_cons,List.map_nil,Option.bind_some,jY,fI,true_and]
    exact⟨by rw[sizeLine_eq];decide +kernel,by rw[sizeLine_eq];decide +kernel,by rw[sizeLine_eq];decide +kernel,by rw[sizeLine_eq];decide +kernel,by rw[sizeLine_eq];decide +kernel,ls,d,some _,some _,s7,by omega,g,hb.up (by omega),by rw[hc];rfl⟩
   ·simp -dsimp only[tgN,n4,n5,↓u6,↓u5,↓lB,↓sU,↓h_c,↓kI,↓mY,↓sT,Gat,List.set_cons_succ,List.set_cons_zero,List.getElem?_cons_succ,List.getElem?_cons_zero,Option.some.injEq,exists_eq',Bo.at,jk,RV.d,uk,i2',↓p5,ats,eW,ke,wD,if_pos,nA,Int.reduceEq,or_true,eH,Bool.false_eq_true,if_false,or_false,uu,qL,↓u7,↓Cf,↓Cg,↓u4,RV.sl,S_0,S_r,S_p,yI,uj,Nat.reduceAdd,tq,V_0,V_r,V_p,yH,Bool.true_xor,exists_eq_left',Bool.not_false,Bool.not_true,↓Cd,↓Ce,↓p6,↓mZ,wA,List.length_cons,List.length_nil,Nat.zero_add,ej,List.nodup_cons,List.not_mem_nil,not_false_eq_true,List.nodup_nil,and_true,fA,List.map_cons,List.map_nil,Option.bind_some,jY,fI,true_and]
    refine⟨by rw[sizeLine_eq];decide +kernel,by rw[sizeLine_eq];decide +kernel,by rw[sizeLine_eq];decide +kernel,by rw[sizeLine_eq];decide +kernel,by rw[sizeLine_eq];decide +kernel,by rw[b8,sizeLine_eq];decide,_,_,_,rfl,hb,by omega,by rw[b8];decide,by rw[b8];decide,fun r2 d2 l2 u2 b2=>?_⟩
    rw[b8] at u2
    walk_at "xb"
    refine C8 l2 u2 (by rw[sizeLine_eq];decide) (fun l hl=>?_)
    obtain⟨g2,c2⟩:=hsn l (by have e:=of_decide_eq_true eH;rw[List.mem_singleton.mp hl];exact⟨fun n=>absurd rfl n,fun _=>by omega⟩)
    walk_at "xb"
    exact⟨by rw[b8,show l.s.length=1 by cases l <;> decide +kernel,sizeLine_eq];omega,⟨by decide,by decide⟩,z2,⟨by decide,by decide⟩,z2,ls++[l],d2,some _,some _,some (.str l.s),by rw[List.length_append];simp only[List.length_cons,List.length_nil];omega,g2,b2.up (by omega),by rw[c2,vo];cases l <;> rfl⟩
  ·cases eH:pq H 1
   ·simp -dsimp only[tgN,n4,n5,↓u6,↓u5,↓lB,↓sU,↓h_c,↓kI,↓mY,↓sT,Gat,List.set_cons_succ,List.set_cons_zero,List.getElem?_cons_succ,List.getElem?_cons_zero,Option.some.injEq,exists_eq',Bo.at,jk,RV.d,uk,i2',↓p5,ats,eW,ke,wD,if_pos,nA,Int.reduceEq,or_true,eH,Bool.false_eq_true,if_false,or_false,uu,qL,↓u7,↓Cf,↓Cg,↓u4,RV.sl,S_0,S_r,S_p,yI,uj,Nat.reduceAdd,tq,V_0,V_r,V_p,yH,Bool.true_xor,exists_eq_left',Bool.not_false,Bool.not_true,↓Cd,↓Ce,↓p6,↓mZ,wA,List.length_cons,List.length_nil,Nat.zero_add,ej,List.nodup_cons,List.not_mem_nil,not_false_eq_true,List.nodup_nil,and_true,fA,List.map_cons,List.map_nil,Option.bind_some,jY,fI,true_and]
    refine⟨by rw[sizeLine_eq];decide +kernel,by rw[sizeLine_eq];decide +kernel,by rw[sizeLine_eq];decide +kernel,by rw[sizeLine_eq];decide +kernel,by rw[sizeLine_eq];decide +kernel,by rw[b8,sizeLine_eq];decide,_,_,_,rfl,hb,by omega,by rw[b8];decide,by rw[b8];decide,fun r2 d2 l2 u2 b2=>?_⟩
    rw[b8] at u2
    walk_at "xb"
    refine C8 l2 u2 (by rw[sizeLine_eq];decide) (fun l hl=>?_)
    obtain⟨g2,c2⟩:=hsn l (by have e:=of_decide_eq_true eW;rw[List.mem_singleton.mp hl];exact⟨fun _=>by omega,fun n=>absurd rfl n⟩)
    walk_at "xb"
    exact⟨by rw[b8,show l.s.length=1 by cases l <;> decide +kernel,sizeLine_eq];omega,⟨by decide,by decide⟩,z2,⟨by decide,by decide⟩,z2,ls++[l],d2,some _,some _,some (.str l.s),by rw[List.length_append];simp only[List.length_cons,List.length_nil];omega,g2,b2.up (by omega),by rw[c2,vo];cases l <;> rfl⟩
   ·simp -dsimp only[tgN,n4,n5,↓u6,↓u5,↓lB,↓sU,↓h_c,↓kI,↓mY,↓sT,Gat,List.set_cons_succ,List.set_cons_zero,List.getElem?_cons_succ,List.getElem?_cons_zero,Option.some.injEq,exists_eq',Bo.at,jk,RV.d,uk,i2',↓p5,ats,eW,ke,wD,if_pos,nA,Int.reduceEq,or_true,eH,Bool.false_eq_true,if_false,or_false,uu,qL,↓u7,↓Cf,↓Cg,↓u4,RV.sl,S_0,S_r,S_p,yI,uj,Nat.reduceAdd,tq,V_0,V_r,V_p,yH,Bool.true_xor,exists_eq_left',Bool.not_false,Bool.not_true,↓Cd,↓Ce,↓p6,↓mZ,wA,List.length_cons,List.length_nil,Nat.zero_add,ej,List.nodup_cons,List.not_mem_nil,not_false_eq_true,List.nodup_nil,and_true,fA,List.map_cons,List.map_nil,Option.bind_some,jY,fI,true_and]
    refine⟨by rw[sizeLine_eq];decide +kernel,by rw[sizeLine_eq];decide +kernel,by rw[sizeLine_eq];decide +kernel,by rw[sizeLine_eq];decide +kernel,by rw[sizeLine_eq];decide +kernel,by rw[b8,sizeLine_eq];decide,_,_,_,rfl,hb,by omega,by rw[b8];decide,by rw[b8];decide,fun r2 d2 l2 u2 b2=>?_⟩
    rw[b8] at u2
    walk_at "xb"
    refine C8 l2 u2 (by rw[sizeLine_eq];decide) (fun l hl=>?_)
    obtain⟨g2,c2⟩:=hsn l (by have e:=of_decide_eq_true eW;have e2:=of_decide_eq_true eH;exact⟨fun _=>by omega,fun _=>by omega⟩)
    walk_at "xb"
    exact⟨by rw[b8,show l.s.length=1 by cases l <;> decide +kernel,sizeLine_eq];omega,⟨by decide,by decide⟩,z2,⟨by decide,by decide⟩,z2,ls++[l],d2,some _,some _,some (.str l.s),by rw[List.length_append];simp only[List.length_cons,List.length_nil];omega,g2,b2.up (by omega),by rw[c2,vo];cases l <;> rfl⟩
 ·rintro Γ ⟨ls,d,s5,s6,s7,hk,g,hb,rfl⟩
  rw[fh] at hk hb
  walk_at "xb"
  exact q _ _ (by omega) g (hb.up (by omega))
def ix (s sub:Str) (n m:Nat) (st:Array Nat×Nat) (i:Nat):Array Nat×Nat:=if (decide (st.1.size < m) && decide (st.2≤i) && decide (i + sub.length≤n) && Builtin.Str.subAt s sub i)=true then (st.1.push i,i + sub.length) else st
theorem Du (s sub:Str) (n m:Nat):Builtin.Str.occurrences s sub 0 n m=((List.range (n + 1)).foldl (ix s sub n m) (#[],0)).1.toList:=by
 have e:(fun (i:Nat) (st:Array Nat×Nat)=>if (decide (st.1.size < m) && decide (st.2≤i) && decide (i + sub.length≤n) && Builtin.Str.subAt s sub i)=true then (pure (ForInStep.yield (st.1.push i,i + sub.length)):Id (ForInStep (Array Nat×Nat))) else pure (ForInStep.yield (st.1,st.2)))=fun i st=>pure (ForInStep.yield (ix s sub n m st i)):=by
  funext i st
  unfold ix
  split <;> rfl
 unfold Builtin.Str.occurrences
 simp only[Id.run,Std.Legacy.Range.forIn_eq_forIn_range',Std.Legacy.Range.size,Nat.sub_zero,Nat.add_sub_cancel,Nat.div_one,e,List.forIn_pure_yield_eq_foldl,List.range_eq_range']
 rfl
theorem JN (ls:List Lt) (i:Nat) (h:i < ls.length):Builtin.Str.subAt (wy ls) ("b":Str) i=decide (ls[i]?=some .b):=by
 unfold Builtin.Str.subAt wy
 have e1:((ls.map Lt.c).toArray.extract i (i + 1))=#[(ls[i]).c]:=by
  apply Array.ext'
  simp only[List.extract_toArray,List.extract_eq_take_drop,Nat.add_sub_cancel_left]
  rw[List.drop_eq_getElem_cons (by simpa using h)]
  simp
 have e2:("b":Str).cps=#[98]:=by decide +kernel
 have e3:("b":Str).length=1:=by decide +kernel
 rw[e3,e1,e2,List.getElem?_eq_getElem h]
 cases ls[i] <;> decide +kernel
theorem occ_inv (ls:List Lt):∀ k≤ls.length,((List.range k).foldl (ix (wy ls) ("b":Str) ls.length (ls.length + 1)) (#[],0)).1.size=(ls.take k).count .b∧((List.range k).foldl (ix (wy ls) ("b":Str) ls.length (ls.length + 1)) (#[],0)).2≤k
 | 0,_=>by simp
 | k + 1,h=>by
  obtain⟨h1,h2⟩:=occ_inv ls k (by omega)
  rw[List.range_succ,List.foldl_append]
  generalize (List.range k).foldl (ix (wy ls) ("b":Str) ls.length (ls.length + 1)) (#[],0)=st at h1 h2 ⊢
  have e3:("b":Str).length=1:=by decide +kernel
  have lt:k < ls.length:=by omega
  have c1:(ls.take k).count .b≤k:=Nat.le_trans List.count_le_length (by rw[List.length_take];omega)
  simp only[List.foldl_cons,List.foldl_nil,ix,e3,JN ls k lt,h1]
  rw[List.take_add_one,List.count_append,List.getElem?_eq_getElem lt]
  have a1:(ls.take k).count .b < ls.length + 1:=by omega
  have a2:k + 1≤ls.length:=by omega
  simp only[a1,a2,h2,decide_true,Bool.true_and,decide_eq_true_eq,Option.some.injEq,Option.toList_some]
  cases ls[k] <;> simp <;> omega
theorem Kk (ls:List Lt):(Builtin.Str.occurrences (wy ls) ("b":Str) 0 (wy ls).length ((wy ls).length + 1)).length=ls.count .b:=by
 rw[Du,b8,List.range_succ,List.foldl_append]
 obtain⟨h1,_⟩:=occ_inv ls ls.length (Nat.le_refl _)
 have e3:("b":Str).length=1:=by decide +kernel
 simp only[List.foldl_cons,List.foldl_nil]
 rw[List.take_length] at h1
 generalize (List.range ls.length).foldl (ix (wy ls) ("b":Str) ls.length (ls.length + 1)) (#[],0)=st at h1 ⊢
 have a2:¬ (ls.length + 1≤ls.length):=by omega
 simp only[ix,e3,a2,decide_false,Bool.and_false,Bool.false_and,if_neg,Bool.false_eq_true,not_false_eq_true,if_false]
 rw[Array.length_toList];exact h1
theorem Gj (k n:Nat):Builtin.Str.strSliceIndices none (some (k:Int)) 1 n=List.range (min k n):=by
 unfold Builtin.Str.strSliceIndices sliceRange
 have h:¬ ((k:Int) < 0):=by omega
 simp only[h,if_false,show (1:Int) > 0 by decide,if_true]
 have e:(if (0:Int) < max 0 (min (k:Int) n) then (max 0 (min (k:Int) n) - 0 + 1 - 1) / 1 else 0).toNat=min k n:=by split <;> omega
 rw[e]
 refine(List.map_congr_left (g:=id) fun j _=>?_).trans (List.map_id _)
 simp
theorem sf {α:Type} (l:List α):∀ m:Nat,m≤l.length→(List.range m).filterMap (fun i=>l[i]?)=l.take m
 | 0,_=>by simp
 | m + 1,h=>by
  have e:l[m]?=some l[m]:=List.getElem?_eq_getElem (by omega)
  have e2:List.filterMap (fun i=>l[i]?) [m]=[l[m]]:=by simp [e]
  rw[List.range_succ,List.filterMap_append,sf l m (by omega),e2,List.take_succ,e]
  rfl
theorem Co (ls:List Lt) (k:Nat):Txt.slice (wy ls) none (some (k:Int))=wy (ls.take k):=by
 unfold Txt.slice
 rw[Gj,b8,List.length_range]
 by_cases h:ls.length≤k
 ·rw[if_pos (by simp;omega),List.take_of_length_le h]
 ·rw[if_neg (by simp;omega)]
  unfold wy
  congr 1
  have e:((List.range (min k ls.length)).filterMap fun x=>((ls.map Lt.c).toArray)[x]?)=(ls.take k).map Lt.c:=by
   have:=sf (ls.map Lt.c) (min k ls.length) (by rw[List.length_map];omega)
   rw[show min k ls.length=k by omega] at this ⊢
   rw[List.map_take,← this]
   congr 1
   funext x
   rw[List.getElem?_toArray]
  rw[← e]
theorem y8 {t l hh ww:Int} (h:0≤hh) (w:0 < ww):(List.range (hh * ww).toNat).map (fun (k:Nat)=>D.tup [.int (t + (k:Int) / ww),.int (l + (k:Int) % ww)])=plc t l hh ww:=by
 obtain⟨n,rfl⟩:=Int.eq_ofNat_of_zero_le h
 obtain⟨m,rfl⟩:=Int.eq_ofNat_of_zero_le (Int.le_of_lt w)
 rw[show ((n:Int) * m).toNat=n * m by rw[← Int.natCast_mul];rfl]
 unfold plc
 simp only[Int.toNat_natCast]
 have hm:0 < m:=by omega
 clear h
 induction n with
 | zero=>simp
 | succ n ih=>
  rw[Nat.succ_mul,List.range_add,List.map_append,ih,List.range_succ,List.map_append,List.flatten_append]
  congr 1
  simp only[List.map_cons,List.map_nil,List.flatten_cons,List.flatten_nil,List.append_nil,ud,List.map_map]
  apply List.map_congr_left
  intro x hx
  have lt:=List.mem_range.mp hx
  have d1:((n * m + x:Nat):Int) / (m:Int)=(n:Int):=by
   rw[← Int.natCast_ediv,Nat.add_comm,Nat.add_mul_div_right _ _ hm,Nat.div_eq_of_lt lt,Nat.zero_add]
  have d2:((n * m + x:Nat):Int) % (m:Int)=(x:Int):=by
   rw[← Int.natCast_emod,Nat.add_comm,Nat.add_mul_mod_self_right,Nat.mod_eq_of_lt lt]
  show D.tup [.int (t + ((n * m + x:Nat):Int) / (m:Int)),.int (l + ((n * m + x:Nat):Int) % (m:Int))]=_
  rw[d1,d2]
theorem zZ {h w:Int} {ls:List Lt} (g:Good h w ls) (h1:1≤h) (w1:1≤w) {i j:Nat} (ij:i≤j):j≤ls.length→(cat h w ls j).1≤(cat h w ls i).1∧(cat h w ls j).2≤(cat h w ls i).2:=by
 induction ij with
 | refl=>exact fun _=>⟨Int.le_refl _,Int.le_refl _⟩
 | @step j _ ih=>
  intro hj
  have hl:ls[j]?=some ls[j]:=List.getElem?_eq_getElem (by omega)
  obtain⟨a1,a2,_,_⟩:=gm (k:=j) g h1 w1 (by omega)
  obtain⟨_,_,b3,b4⟩:=A1 (rJ g hl) a1 a2
  have st:=jO (h:=h) (w:=w) hl
  obtain⟨i1,i2⟩:=ih (by omega)
  rw[show cat h w ls (j.succ)=_ from st]
  exact⟨Int.le_trans b3 i1,Int.le_trans b4 i2⟩
theorem wF {y x h w:Int}:inB y x h w=true↔0≤y∧y≤h - 1∧0≤x∧x≤w - 1:=by
 unfold inB whD
 simp [and_assoc]
theorem wG {h w:Int} {ls:List Lt} {y x:Int} {m:Nat} (hm:m≤ls.length) (hin:∀ i < m,inB y x (cat h w ls i).1 (cat h w ls i).2=true):∀ k≤m,m_ h w ls y x k=((ls.take k).length:Int) + ((ls.take k).count .b:Int)
 | 0,_=>by simp [m_]
 | k + 1,hk=>by
  have lt:k < ls.length:=by omega
  have e:=wG hm hin k (by omega)
  simp only[m_,e,oF,hin k (by omega),if_true]
  rw[List.take_add_one,List.getElem?_eq_getElem lt,List.count_append,List.length_append,List.getD_eq_getElem?_getD,List.getElem?_eq_getElem lt]
  simp only[Option.toList_some,Option.getD_some,List.length_cons,List.length_nil]
  cases ls[k] <;> simp [Lt.n] <;> omega
theorem yk {h w:Int} {ls:List Lt} {y x:Int} {m:Nat} (ho:∀ i,m≤i→i < ls.length→inB y x (cat h w ls i).1 (cat h w ls i).2=false):∀ j,m + j≤ls.length→m_ h w ls y x (m + j)=m_ h w ls y x m
 | 0,_=>rfl
 | j + 1,hj=>by
  have e:=yk ho j (by omega)
  show m_ h w ls y x (m + j) + oF h w ls y x (m + j)=_
  rw[e,oF,ho (m + j) (by omega) (by omega)]
  simp
def many (ls:List Lt) (s:Nat):Int:=((ls.take (s + 1)).length:Int) + ((ls.take (s + 1)).count .b:Int)
theorem AR {h w:Int} {ls:List Lt} {p:Pt} (g:Good h w ls) (sz:iE h w) (o:tT h w ls p) {y x:Int} (hy:p.t≤y) (hy2:y < p.t + p.hh) (hx:p.l≤x) (hx2:x < p.l + p.ww):m_ h w ls y x ls.length=many ls p.s:=by
 have o1:=o.ht
 have o2:=o.wl
 have o3:=o.t0
 have o4:=o.l0
 have o5:=o.s
 have hin:∀ i≤p.s,inB y x (cat h w ls i).1 (cat h w ls i).2=true:=by
  intro i hi
  obtain⟨c1,c2⟩:=zZ g sz.h1 sz.w1 hi o.s
  rw[wF];omega
 unfold many
 by_cases e:p.s < ls.length
 ·have e1:=wG (m:=p.s + 1) (by omega) (fun i hi=>hin i (by omega)) (p.s + 1) (Nat.le_refl _)
  rw[← e1]
  have e2:=yk (h:=h) (w:=w) (ls:=ls) (y:=y) (x:=x) (m:=p.s + 1) (fun i hi hi2=>by
   obtain⟨c1,c2⟩:=zZ g sz.h1 sz.w1 hi (by omega)
   have:=o.out e
   have n:¬ inB y x (cat h w ls i).1 (cat h w ls i).2=true:=by rw[wF];omega
   simpa using n) (ls.length - (p.s + 1)) (by omega)
  rw[show p.s + 1 + (ls.length - (p.s + 1))=ls.length by omega] at e2
  exact e2
 ·have e1:=wG (m:=ls.length) (Nat.le_refl _) (fun i hi=>hin i (by omega)) ls.length (Nat.le_refl _)
  rw[e1,List.take_of_length_le (Nat.le_refl _),List.take_of_length_le (by omega)]
theorem DX {h w:Int} {ls:List Lt} {p:Pt} (g:Good h w ls) (sz:iE h w) (o:tT h w ls p) {y x:Int} (hy:p.t≤y) (hy2:y < p.t + p.hh) (hx:p.l≤x) (hx2:x < p.l + p.ww):inB y x h w=true:=by
 have o1:=o.ht
 have o2:=o.wl
 have o3:=o.t0
 have o4:=o.l0
 obtain⟨c1,c2⟩:=zZ g sz.h1 sz.w1 (Nat.zero_le p.s) o.s
 rw[qF] at c1 c2
 rw[wF];dsimp only at c1 c2;omega
theorem H8 {h w:Int} {ls:List Lt}:∀ p∈pts h w ls,(PyData.shown (.str p.wd)).length≤100:=by
 intro p hp
 unfold pts at hp
 rcases List.mem_cons.mp hp with rfl | hp
 ·show (PyData.shown (.str "coarse")).length≤100
  decide +kernel
 ·rw[List.mem_flatten] at hp
  obtain⟨xs,hxs,hp⟩:=hp
  obtain⟨i,_,rfl⟩:=List.mem_map.mp hxs
  have c1:(PyData.shown (.str "row")).length≤100:=by decide +kernel
  have c2:(PyData.shown (.str "pillar")).length≤100:=by decide +kernel
  have c3:(PyData.shown (.str "both")).length≤100:=by decide +kernel
  cases q:ls[ls.length - 1 - i]? with
  | none=>unfold pat at hp;rw[q] at hp;cases hp
  | some l=>
   rw[vV q] at hp
   cases l <;> simp only[xR,List.mem_cons,List.not_mem_nil,or_false] at hp
   ·subst hp;exact c1
   ·subst hp;exact c2
   ·rcases hp with rfl | rfl | rfl
    ·exact c1
    ·exact c2
    ·exact c3
theorem shI {i:Int} (h0:-1≤i) (h1:i≤1000):Sh 100 1 (.int i):=by
 have:i.natAbs≤1000:=by omega
 exact .int (Nat.lt_of_le_of_lt this (by decide))
theorem G9 {y x:Int} (hy:0≤y) (hy2:y≤200) (hx:0≤x) (hx2:x≤200):Sh 207 2 (pD y x):=by
 refine Sh.tup (n:=100) (k:=1) (l:=2) (fun d hd=>?_) (Nat.le_refl 2)
 simp only[List.mem_cons,List.not_mem_nil,or_false] at hd
 rcases hd with rfl | rfl <;> exact shI (by omega) (by omega)
theorem yV {h w:Int} {ls:List Lt} (g:Good h w ls) (sz:iE h w) (hl:ls.length≤10):Sh 20000 3 (.lst ((pts h w ls).map Pt.D)):=by
 refine .up (Sh.lst (n:=615) (k:=2) (l:=31) (fun d hd=>?_) (by rw[List.length_map];exact mR hl)) (by decide) (by decide)
 obtain⟨p,hp,rfl⟩:=List.mem_map.mp hd
 have o:=lH g sz p hp
 have b:=o.b g sz
 have:=o.s
 have:=o.t0
 have:=o.l0
 have:=o.h1
 have:=o.w1
 have:=o.ht
 have:=o.wl
 obtain⟨_,_,a3,a4⟩:=gm (k:=p.s) g sz.h1 sz.w1 o.s
 have:=sz.h2
 have:=sz.w2
 refine Sh.tup (n:=100) (k:=1) (l:=6) (fun d hd=>?_) (Nat.le_refl 6)
 simp only[List.mem_cons,List.not_mem_nil,or_false] at hd
 rcases hd with rfl | rfl | rfl | rfl | rfl | rfl
 ·exact shI (by omega) (by omega)
 ·exact .str (H8 p hp)
 ·exact shI (by omega) (by omega)
 ·exact shI (by omega) (by omega)
 ·exact shI (by omega) (by omega)
 ·exact shI (by omega) (by omega)
theorem J8 {h w:Int} {ls:List Lt} {p:Pt} (g:Good h w ls) (sz:iE h w) (o:tT h w ls p):∀ d∈p.pl,Sh 207 2 d:=by
 intro d hd
 unfold Pt.pl plc at hd
 rw[List.mem_flatten] at hd
 obtain⟨xs,hxs,hd⟩:=hd
 obtain⟨y,hy,rfl⟩:=List.mem_map.mp hxs
 obtain⟨x,hx,rfl⟩:=List.mem_map.mp hd
 have hy:=List.mem_range.mp hy
 have hx:=List.mem_range.mp hx
 have:=o.t0
 have:=o.l0
 have:=o.ht
 have:=o.wl
 obtain⟨_,_,a3,a4⟩:=gm (k:=p.s) g sz.h1 sz.w1 o.s
 have:=sz.h2
 have:=sz.w2
 exact G9 (by omega) (by omega) (by omega) (by omega)
theorem Fz {h w:Int} {ls:List Lt} {p:Pt} (g:Good h w ls) (sz:iE h w) (o:tT h w ls p):p.pl.length≤512:=by
 unfold Pt.pl plc
 rw[l_ (m:=p.ww.toNat) (fun _=>lI)]
 have:=o.t0
 have:=o.l0
 have:=o.ht
 have:=o.wl
 have:=o.h1
 have:=o.w1
 obtain⟨_,_,a3,a4⟩:=gm (k:=p.s) g sz.h1 sz.w1 o.s
 have e:p.hh.toNat * p.ww.toNat≤h.toNat * w.toNat:=Nat.mul_le_mul (by omega) (by omega)
 have m:=sz.m
 have e2:((h.toNat * w.toNat:Nat):Int)=h * w:=by
  rw[Int.natCast_mul,Int.toNat_of_nonneg (by have:=sz.h1;omega),Int.toNat_of_nonneg (by have:=sz.w1;omega)]
 omega
theorem pT {h w:Int} {ls:List Lt} (g:Good h w ls) (sz:iE h w):∀ {ps:List Pt},(∀ p∈ps,tT h w ls p)→(kZ ps).length≤512 * ps.length
 | [],_=>by simp [kZ]
 | p::ps,hp=>by
  have e:=pT g sz (ps:=ps) fun q hq=>hp q (List.mem_cons_of_mem _ hq)
  have e2:=Fz g sz (hp p (List.mem_cons_self ..))
  unfold kZ at e ⊢
  simp only[List.map_cons,List.flatten_cons,List.length_append,List.length_cons]
  omega
theorem yW {h w:Int} {ls:List Lt} (g:Good h w ls) (sz:iE h w) (hl:ls.length≤10):Sh 4000000 3 (.lst (ord h w ls)):=by
 refine .up (Sh.lst (n:=207) (k:=2) (l:=512 * 31) (fun d hd=>?_) ?_) (by decide) (by decide)
 ·unfold ord kZ at hd
  rw[List.mem_flatten] at hd
  obtain⟨xs,hxs,hd⟩:=hd
  obtain⟨p,hp,rfl⟩:=List.mem_map.mp hxs
  exact J8 g sz (lH g sz p hp) d hd
 ·exact Nat.le_trans (pT g sz (lH g sz)) (Nat.mul_le_mul_left _ (mR hl))
theorem pP {h w:Int} {ls:List Lt} (g:Good h w ls) (sz:iE h w) (hl:ls.length≤10):Sh 10000000 20 (.lst [.lst ((pts h w ls).map Pt.D),.lst (ord h w ls)]):=by
 refine .up (Sh.lst (n:=4000000) (k:=3) (l:=2) (fun d hd=>?_) (Nat.le_refl 2)) (by decide) (by decide)
 simp only[List.mem_cons,List.not_mem_nil,or_false] at hd
 rcases hd with rfl | rfl
 ·exact .up (yV g sz hl) (by decide) (by decide)
 ·exact yW g sz hl
theorem vz {h w:Int} {ls:List Lt} {k:Nat} (g:Good h w ls) (sz:iE h w) (hk:k≤ls.length):Sh 10000000 20 (cD (cat h w ls k)):=by
 obtain⟨a1,a2,a3,a4⟩:=gm (k:=k) g sz.h1 sz.w1 hk
 have:=sz.h2
 have:=sz.w2
 exact .up (G9 (by omega) (by omega) (by omega) (by omega)) (by decide) (by decide)
def IQ:S3:=fun Γ Q=>∃ (h w:Int) (ls:List Lt),Γ=[some (.fz (pD h w)),some (.fz (.str (wy ls)))]∧ls.length≤10∧Q (.fr (.lst ((gk h w ls).map cD))) Γ
theorem kO (T:Txt K mg a):aT P w K mg base CX0 1 a.iW a.hV ["_law_size_here","_law_way_here"] (sp3 K 2 IQ):=by
 refine ok3 T.ja cK (hbody:=fun cdv A outer s H E hr=>⟨_,_,(aj (aZ (i:=2) cK.nd rfl (Or.inl rfl) (bR (ae (p3v 0) aq)))
   (aj (eS PassesOwn.never rfl (DZ (p3v 1)) (cE (i:=3) cK.nd rfl (Or.inl rfl))
   (aj (iu (is:=[4,5]) (by rfl) (bz (by rfl) (bv 2) (P3.opd (fR (P3.opd ag))) (fun _ _=>rfl)) (av (aA (i:=4) cK.nd rfl (Or.inl rfl)) (av (aA (i:=5) cK.nd rfl (Or.inl rfl)) b_)) rfl)
   (aj (br (aI (ee (by rfl) hr) (bv 3) (P3.opd bA) (aR _)) (ak (aZ (i:=5) cK.nd rfl (Or.inl rfl) (cI (P3.opd (aJ (bv 5) (P3.opd ag))) (P3.opd ag)))) a_)
   (aj (br (aI (ee (by rfl) hr) (bv 3) (P3.opd bA) (aR _)) (ak (aZ (i:=4) cK.nd rfl (Or.inl rfl) (cI (P3.opd (aJ (bv 4) (P3.opd ag))) (P3.opd ag)))) a_)
   (ak (bN (cJ 2 (by rfl) (bv 2) (bL (ae (p3v 4) (ae (p3v 5) aq))))))))))
   (ak (aw (pR 2))))),fun Γa Q h hl=>?_⟩)
 obtain⟨h,w,ls,rfl,hls,q⟩:=h
 walk_at "xb"
 refine⟨z1,yQ ls,dF (fun k Γ=>k≤ls.length∧∃ s3 s4 s5,Γ=[some (.fz (pD h w)),some (.fz (.str (wy ls))),some (.ow (.lst (((gk h w ls).take (k + 1)).map cD))),fo s3,fo s4,fo s5]) ⟨Nat.zero_le _,none,none,none,by cases ls <;> rfl⟩ ?_ ?_⟩
 ·rintro k d Γ hd ⟨hk,s3,s4,s5,rfl⟩
  rw[lx] at hd
  obtain⟨l,hl,rfl⟩:=wx hd
  have lt:=wz hl
  have tk:(((gk h w ls).take (k + 1)).map cD).length=k + 1:=by rw[List.length_map,List.length_take,fe];omega
  have at1:atI (((gk h w ls).take (k + 1)).map cD) (-1)=some (.tup [.int (cat h w ls k).1,.int (cat h w ls k).2]):=rK (by rw[tk,List.map_take,List.getElem?_take_of_lt (by omega)];exact A0 (by omega))
  have st:=jO (h:=h) (w:=w) hl
  have z3:(((gk h w ls).take (k + 1)).map cD).length < sizeLine:=by rw[tk,sizeLine_eq];omega
  cases l
  ·walk_at "xb"
   rw[at1]
   walk_at "xb"
   have st':cat h w ls (k + 1)=((cat h w ls k).1,((cat h w ls k).2 + 1) / 2):=st
   exact⟨⟨by decide,by decide⟩,z2,z3,lt,some _,some _,some _,by rw[← iG lt,st'];rfl⟩
  ·walk_at "xb"
   rw[at1]
   walk_at "xb"
   have st':cat h w ls (k + 1)=(((cat h w ls k).1 + 1) / 2,(cat h w ls k).2):=st
   exact⟨⟨by decide,by decide⟩,z2,z3,lt,some _,some _,some _,by rw[← iG lt,st'];rfl⟩
  ·walk_at "xb"
   rw[at1]
   walk_at "xb"
   have st':cat h w ls (k + 1)=(((cat h w ls k).1 + 1) / 2,((cat h w ls k).2 + 1) / 2):=st
   exact⟨⟨by decide,by decide⟩,⟨by decide,by decide⟩,z2,z3,lt,some _,some _,some _,by rw[← iG lt,st'];rfl⟩
 ·rintro Γ ⟨hk,s3,s4,s5,rfl⟩
  walk_at "xb"
  rw[lx,List.length_map,List.take_of_length_le (by rw[fe];omega)]
  exact q
def DM:S3:=fun Γ Q=>∃ i:Int,Γ=[some (.fz (.int i))]∧Q (.fz (.bl true)) Γ
theorem ny (T:Txt K mg a):aT P w K mg base CX0 1 a.kB a.jw ["_law_found"] (sp3 K 1 DM):=by
 refine ok3 T.kK t_ (hbody:=fun cdv A outer s H E hr=>⟨_,_,(ak (aw (vY (ax (Hz T.ty) (by rfl) T.z_isinstance (by decide +kernel) (aa (bv 0) (aa (P3.opd (qy (n:="int") (by rfl) T.z_int (by decide +kernel))) af))) (su (Iw (ax (HA T.ty) (by rfl) T.z_isinstance (by decide +kernel) (aa (bv 0) (aa (P3.opd (qy (n:="bool") (by rfl) T.z_bool (by decide +kernel))) af)))))))),fun Γa Q h hl=>?_⟩)
 obtain⟨i,rfl,q⟩:=h
 walk_at "xb"
 exact q
def DN:S3:=fun Γ Q=>∃ (h w:Int) (ls:List Lt),Γ=[some (.fz (pD h w)),some (.fz (.str (wy ls)))]∧ls.length≤10∧Q (.fr (.lst ((pts h w ls).map Pt.D))) Γ
theorem ug (T:Txt K mg a):aT P w K mg base CX0 2 a.kC a.jx ["_law_size_here","_law_way_here"] (sp3 K 2 DN):=by
 refine ok3 T.pK cP (hbody:=fun cdv A outer s H E hr=>⟨_,_,(aj (aZ (i:=2) cP.nd rfl (Or.inl rfl) (ay (by rfl) (kO T) (hr.mono (by decide)) (by rfl) T.lW T.ja.kp T.mE (aa (P3.opd (p3v 0)) (aa (P3.opd (p3v 1)) af))))
   (aj (aZ (i:=3) cP.nd rfl (Or.inl rfl) (bR (ae (FR (by rfl) (P3.opd (bL (ae (ax (dm (by rfl)) (by rfl) T.z_len (by decide +kernel) (aa (bv 1) af)) (ae bA (ae ag (ae ag aq)))))) (P3.opd (bz (by rfl) (bv 2) (P3.opd (fR (P3.opd ag))) (fun _ _=>rfl)))) aq)))
   (aj (eS PassesOwn.never rfl (B0 (by rfl) T.z_range (ae (cG (P3.opd (ax (dm (by rfl)) (by rfl) T.z_len (by decide +kernel) (aa (bv 1) af))) (P3.opd ag)) (ae (fR (P3.opd ag)) (ae (fR (P3.opd ag)) aq)))) (cE (i:=4) cP.nd rfl (Or.inl rfl))
   (aj (iu (is:=[5,6]) (by rfl) (bz (by rfl) (bv 2) (bv 4) (fun _ _=>rfl)) (av (aA (i:=5) cP.nd rfl (Or.inl rfl)) (av (aA (i:=6) cP.nd rfl (Or.inl rfl)) b_)) rfl)
   (aj (iu (is:=[7,8]) (by rfl) (bz (by rfl) (bv 2) (P3.opd (aJ (bv 4) (P3.opd ag))) (fun _ _=>rfl)) (av (aA (i:=7) cP.nd rfl (Or.inl rfl)) (av (aA (i:=8) cP.nd rfl (Or.inl rfl)) b_)) rfl)
   (ak (br (aI (gn (by rfl) hr) (P3.opd (bz (by rfl) (bv 1) (bv 4) (fun _ _=>rfl))) (P3.opd bA) (aR _)) (ak (bN (cJ 3 (by rfl) (bv 3) (bL (ae (p3v 4) (ae bA (ae ag (ae (p3v 8) (ae (p3v 5) (ae (cG (bv 6) (bv 8)) aq)))))))))) (ak (br (aI (gn (by rfl) hr) (P3.opd (bz (by rfl) (bv 1) (bv 4) (fun _ _=>rfl))) (P3.opd bA) (aR _)) (ak (bN (cJ 3 (by rfl) (bv 3) (bL (ae (p3v 4) (ae bA (ae (p3v 7) (ae ag (ae (cG (bv 5) (bv 7)) (ae (p3v 6) aq)))))))))) (aj (bN (cJ 3 (by rfl) (bv 3) (bL (ae (p3v 4) (ae bA (ae ag (ae (p3v 8) (ae (p3v 7) (ae (cG (bv 6) (bv 8)) aq)))))))))
   (aj (bN (cJ 3 (by rfl) (bv 3) (bL (ae (p3v 4) (ae bA (ae (p3v 7) (ae ag (ae (cG (bv 5) (bv 7)) (ae (p3v 8) aq)))))))))
   (ak (bN (cJ 3 (by rfl) (bv 3) (bL (ae (p3v 4) (ae bA (ae (p3v 7) (ae (p3v 8) (ae (cG (bv 5) (bv 7)) (ae (cG (bv 6) (bv 8)) aq)))))))))))))))))))
   (ak (aw (pR 3)))))),fun Γa Q h hl=>?_⟩)
 obtain⟨h,w,ls,rfl,hls,q⟩:=h
 walk_at "xb"
 refine⟨h,w,ls,rfl,hls,?_⟩
 walk_at "xb"
 have atl:atI ((gk h w ls).map cD) (-1)=some (.tup [.int (cat h w ls ls.length).1,.int (cat h w ls ls.length).2]):=rK (by rw[List.length_map,fe];exact A0 (Nat.le_refl _))
 have zw:(wy ls).length≤sizeLine:=by rw[b8,sizeLine_eq];omega
 rw[atl]
 refine⟨zw,z4,?_⟩
 walk_at "xb"
 rw[b8]
 refine⟨List.cons_ne_nil _ _,List.cons_ne_nil _ _,z6,z1,by rw[sizeLine_eq];omega,by omega,by omega,by decide,by decide,dF (fun i Γ=>i≤ls.length∧∃ s4 s5 s6 s7 s8,Γ=[some (.fz (pD h w)),some (.fz (.str (wy ls))),some (.ow (.lst ((gk h w ls).map cD))),some (.ow (.lst ((jt h w ls i).map Pt.D))),fo s4,fo s5,fo s6,fo s7,fo s8]) ⟨Nat.zero_le _,none,none,none,none,none,rfl⟩ ?_ ?_⟩
 ·rintro i d Γ hd ⟨hi,s4,s5,s6,s7,s8,rfl⟩
  obtain⟨lt,rfl⟩:=xC hd
  have lt':i < ls.length:=by omega
  obtain⟨j,hj⟩:∃ j,j + i + 1=ls.length:=⟨ls.length - 1 - i,by omega⟩
  rw[show (ls.length:Int) - 1 + (i:Int) * (-1)=(j:Int) by omega]
  have hj2:ls.length - 1 - i=j:=by omega
  obtain⟨l,hl⟩:∃ l,ls[j]?=some l:=⟨ls[j],List.getElem?_eq_getElem (by omega)⟩
  have c1:atI ((gk h w ls).map cD) (j:Int)=some (.tup [.int (cat h w ls j).1,.int (cat h w ls j).2]):=iC (by omega)
  have c2:atI ((gk h w ls).map cD) ((j:Int) + 1)=some (.tup [.int (cat h w ls (j + 1)).1,.int (cat h w ls (j + 1)).2]):=iC (k:=j + 1) (by omega)
  have a1:=atL hl
  have ln:((jt h w ls i).map Pt.D).length≤31:=by rw[List.length_map];exact Nat.le_trans (j_ i) (by omega)
  have z3:((jt h w ls i).map Pt.D).length < sizeLine:=by rw[sizeLine_eq];omega
  have st:=jO (h:=h) (w:=w) hl
  have fin:=lK (h:=h) (w:=w) (ls:=ls) (i:=i)
  rw[hj2,vV hl] at fin
  walk_at "xb"
  rw[c1]
  walk_at "xb"
  rw[c2]
  walk_at "xb"
  refine rE zw a1 ?_
  cases l
  ·have e1:(cat h w ls (j + 1)).1=(cat h w ls j).1:=by rw[st];rfl
   walk_at "xb"
   exact⟨z6,z3,lt',some _,some _,some _,some _,some _,by rw[← fin,List.map_append,← e1];rfl⟩
  ·have e1:(cat h w ls (j + 1)).2=(cat h w ls j).2:=by rw[st];rfl
   walk_at "xb"
   refine rE zw a1 ?_
   walk_at "xb"
   exact⟨z6,z3,lt',some _,some _,some _,some _,some _,by rw[← fin,List.map_append,← e1];rfl⟩
  ·walk_at "xb"
   refine rE zw a1 ?_
   walk_at "xb"
   exact⟨z6,z3,z6,by rw[List.length_append,sizeLine_eq];simp only[List.length_cons,List.length_nil];omega,z6,by rw[List.length_append,List.length_append,sizeLine_eq];simp only[List.length_cons,List.length_nil];omega,lt',some _,some _,some _,some _,some _,by rw[← fin,List.map_append,List.append_assoc,List.append_assoc];rfl⟩
 ·rintro Γ ⟨hi,s4,s5,s6,s7,s8,rfl⟩
  walk_at "xb"
  rw[xB,show ((ls.length:Int) - 1 - -1).toNat=ls.length by omega]
  exact q
def DO:S3:=fun Γ Q=>∃ (h w:Int) (ls:List Lt),Γ=[some (.fz (.lst ((pts h w ls).map Pt.D)))]∧iE h w∧Good h w ls∧ls.length≤10∧Q (.fr (.lst (ord h w ls))) Γ
theorem uh (T:Txt K mg a):aT P w K mg base CX0 1 a.kD a.jy ["_law_parts_here"] (sp3 K 1 DO):=by
 refine ok3 T.pM cn (hbody:=fun cdv A outer s H E hr=>⟨_,_,(aj (aZ (i:=1) cn.nd rfl (Or.inl rfl) (bR aq))
   (aj (eS PassesOwn.never rfl (gP (by rfl) (p3v 0)) (hU (is:=[2,3,4,5,6,7]) (by rfl) (av (aA (i:=2) cn.nd rfl (Or.inl rfl)) (av (aA (i:=3) cn.nd rfl (Or.inl rfl)) (av (aA (i:=4) cn.nd rfl (Or.inl rfl)) (av (aA (i:=5) cn.nd rfl (Or.inl rfl)) (av (aA (i:=6) cn.nd rfl (Or.inl rfl)) (av (aA (i:=7) cn.nd rfl (Or.inl rfl)) b_)))))) rfl)
   (ak (eS PassesOwn.never rfl (eN (by rfl) T.z_range (ae (g0 (bv 6) (bv 7)) aq)) (cE (i:=8) cn.nd rfl (Or.inl rfl))
   (ak (bN (cJ 1 (by rfl) (bv 1) (bL (ae (aJ (bv 4) (P3.opd (cI (bv 8) (bv 7)))) (ae (aJ (bv 5) (P3.opd (nU (bv 8) (bv 7)))) aq)))))))))
   (ak (aw (pR 1))))),fun Γa Q h hl=>?_⟩)
 obtain⟨h,w,ls,rfl,sz,g,hls,q⟩:=h
 walk_at "xb"
 refine⟨Nat.zero_le _,dF (fun k Γ=>∃ s2 s3 s4 s5 s6 s7 s8,Γ=[some (.fz (.lst ((pts h w ls).map Pt.D))),some (.ow (.lst (kZ ((pts h w ls).take k)))),fo s2,fo s3,fo s4,fo s5,fo s6,fo s7,fo s8]) ⟨none,none,none,none,none,none,none,rfl⟩ ?_ ?_⟩
 ·rintro k d Γ hd ⟨s2,s3,s4,s5,s6,s7,s8,rfl⟩
  obtain⟨p,hp,rfl⟩:=vQ hd
  have o:=lH g sz p (List.mem_of_getElem? hp)
  have b:=o.b g sz
  rw[show p.D=.tup [.int p.s,.str p.wd,.int p.t,.int p.l,.int p.hh,.int p.ww] from rfl]
  walk_at "xb"
  have pl:=vR b
  have hn:(p.hh * p.ww).toNat≤4096:=by
   have e:=congrArg List.length (y8 (t:=p.t) (l:=p.l) (hh:=p.hh) (ww:=p.ww) (by have:=o.h1;omega) (by have:=o.w1;omega))
   rw[List.length_map,List.length_range] at e
   rw[e];exact pl
  have hp0:0≤p.hh * p.ww:=Int.mul_nonneg (by have:=o.h1;omega) (by have:=o.w1;omega)
  have bh:=b.h1
  have bw:=b.w1
  have oh:=o.h1
  have ow:=o.w1
  have lo:(kZ ((pts h w ls).take k)).length≤4096 * 31:=Nat.le_trans (oM fun q hq=>(lH g sz q (List.mem_of_mem_take hq)).b g sz) (Nat.mul_le_mul_left _ (Nat.le_trans (by rw[List.length_take];exact Nat.min_le_right _ _) (mR hls)))
  refine⟨.inl ⟨by omega,by omega⟩,by omega,by omega,dF (fun j Γ=>∃ s8,Γ=[some (.fz (.lst ((pts h w ls).map Pt.D))),some (.ow (.lst (kZ ((pts h w ls).take k)++(List.range j).map fun (i:Nat)=>D.tup [.int (p.t + (i:Int) / p.ww),.int (p.l + (i:Int) % p.ww)]))),some (.fz (.int p.s)),some (.fz (.str p.wd)),some (.fz (.int p.t)),some (.fz (.int p.l)),some (.fz (.int p.hh)),some (.fz (.int p.ww)),fo s8]) ⟨s8,by simp⟩ ?_ ?_⟩
  ·rintro j d Γ hd ⟨s8,rfl⟩
   obtain⟨hj,rfl⟩:=fP hd
   rw[Int.zero_add]
   walk_at "xb"
   exact⟨⟨by omega,by omega⟩,by omega,z2,by rw[List.length_append,List.length_map,List.length_range,sizeLine_eq];omega,some _,by rw[List.append_assoc,snoc rfl];rfl⟩
  ·rintro Γ ⟨s8,rfl⟩
   walk_at "xb"
   exact⟨some _,some _,some _,some _,some _,some _,s8,by rw[fh,y8 (by omega) (by omega),rP hp,← uP];rfl⟩
 ·rintro Γ ⟨s2,s3,s4,s5,s6,s7,s8,rfl⟩
  walk_at "xb"
  rw[List.length_map,List.take_length]
  exact q
def Gg:S3:=fun Γ Q=>∃ (ls:List Lt) (s:Nat),Γ=[some (.fz (.str (wy ls))),some (.fz (.int s))]∧ls.length≤10∧s≤10∧Q (.fz (.int (many ls s))) Γ
theorem v9 (T:Txt K mg a):aT P w K mg base CX0 1 a.mr a.ko ["_law_way_here","_law_step"] (sp3 K 2 Gg):=by
 refine ok3 T.qU vF (hbody:=fun cdv A outer s H E hr=>⟨_,_,(ak (aw (aJ (P3.opd (ax (dm (by rfl)) (by rfl) T.z_len (by decide +kernel) (aa (P3.opd (uN (bv 0) gU (dQ (P3.opd (aJ (bv 1) (P3.opd ag)))))) af))) (P3.opd (Dk (by rfl) (uN (bv 0) gU (dQ (P3.opd (aJ (bv 1) (P3.opd ag))))) bA))))),fun Γa Q h hl=>?_⟩)
 obtain⟨ls,s,rfl,hls,hs,q⟩:=h
 walk_at "xb"
 have e:Txt.slice (wy ls) none (some ((s:Int) + 1))=wy (ls.take (s + 1)):=Co ls (s + 1)
 have z:∀ ls:List Lt,ls.length≤10→(wy ls).length≤sizeLine:=fun ls h=>by rw[b8,sizeLine_eq];omega
 refine⟨z _ hls,?_,z _ hls,?_⟩
 ·rw[e];exact z _ (by rw[List.length_take];omega)
 ·rw[e,b8]
  unfold Jq
  rw[Kk]
  exact q
def IP (a:Ad):S3:=fun Γ Q=>∃ (R:Rl) (h w:Int) (ls:List Lt),Γ=[some (.fz (plD a R h w ls)),some (.fz (pD h w)),some (.fz (.str R.word)),some (.fz (.str (wy ls)))]∧iE h w∧Good h w ls∧ls.length≤10∧Q (.fz (.bl true)) Γ
theorem three {a b c:Int} {k:Nat} {d:D} (h:[D.int a,.int b,.int c][k]?=some d):∃ i,d=.int i:=by
 have:=List.mem_of_getElem? h
 simp only[List.mem_cons,List.not_mem_nil,or_false] at this
 rcases this with rfl | rfl | rfl <;> exact⟨_,rfl⟩
theorem KR:Fig [1,4,9]:=by
 intro n h
 simp only[List.mem_cons,List.not_mem_nil,or_false] at h
 rcases h with rfl | rfl | rfl <;> decide
theorem Gz {a b:Int} (h1:-100 < a∧a < 100) (h2:-100 < b∧b < 100):Fig [a,b]:=by
 intro n h
 simp only[List.mem_cons,List.not_mem_nil,or_false] at h
 rcases h with rfl | rfl <;> omega
theorem GA {a:Int} (h1:-100 < a∧a < 100):Fig [a]:=by
 intro n h
 rw[List.mem_singleton.mp h];omega
theorem Ei {n:Nat} {xs ys:List Int}:eqN (n + 2) (.tup [il xs,il ys]) (.tup [il xs,il ys])=some true:=by
 have h1:=jN (n:=n) xs xs
 have h2:=jN (n:=n) ys ys
 rw[decide_eq_true rfl] at h1 h2
 have e:∀ X Y:List D,eqN (n + 1 + 1) (.tup X) (.tup Y)=gW (n + 1) X Y:=fun X Y=>by rw[eqN]
 rw[e]
 simp only[gW,h1,h2,Bool.and_self]
def Rl.sA:Rl→List Int
 | .sum=>[5,18] | .guess=>[1,9] | _=>[2,9]
def Rl.sP:Rl→List Int
 | .guess=>[-1] | _=>[-3]
theorem dgR (R:Rl):(if R.word="sum" then D.tup [.lst [.int 5,.int 18],.lst [.int (-3)]] else if R.word="guess" then D.tup [.lst [.int 1,.int 9],.lst [.int (-1)]] else D.tup [.lst [.int 2,.int 9],.lst [.int (-3)]])=.tup [il R.sA,il R.sP]:=by
 cases R
 ·exact if_pos rfl
 ·exact(if_neg (by decide +kernel)).trans (if_neg (by decide +kernel))
 ·exact(if_neg (by decide +kernel)).trans (if_pos rfl)
 ·exact(if_neg (by decide +kernel)).trans (if_neg (by decide +kernel))
theorem F9 (R:Rl) (hR:R≠.lean):R.sums [1,4,9]=R.sA∧R.dif [1,4,9]=R.sP∧AJ R R.sA R.sP=[1,4,9]∧Fig R.sA∧Fig R.sP∧1≤R.sP.length∧R.sP.length≤R.sA.length∧R.sA.length≤R.sP.length + 1∧R.sA.length + R.sP.length≤64:=by
 cases R
 ·exact⟨by decide +kernel,by decide +kernel,by decide +kernel,Gz (by decide) (by decide),GA (by decide),by decide,by decide,by decide,by decide⟩
 ·exact⟨by decide +kernel,by decide +kernel,by decide +kernel,Gz (by decide) (by decide),GA (by decide),by decide,by decide,by decide,by decide⟩
 ·exact⟨by decide +kernel,by decide +kernel,by decide +kernel,Gz (by decide) (by decide),GA (by decide),by decide,by decide,by decide,by decide⟩
 ·exact absurd rfl hR
theorem k_ (T:Txt K mg a):aT P w K mg base CX0 6 a.eC a.d8 ["_law_plan","_law_size_here","_law_word","_law_way_here"] (sp3 K 4 (IP a)):=by
 refine ok3 T.gZ bu (hbody:=fun cdv A outer s H E hr=>⟨_,_,(aj (aZ (i:=4) bu.nd rfl (Or.inl rfl) (ay (by rfl) (kO T) (hr.mono (by decide)) (by rfl) T.lW T.ja.kp T.mE (aa (P3.opd (p3v 1)) (aa (P3.opd (p3v 3)) af))))
   (aj (aZ (i:=5) bu.nd rfl (Or.inl rfl) (bR (ae (aE (by rfl) (bv 0) T.aD T.lT (lQ T) (hr.mono (by decide)) T.nM) (ae (aE (by rfl) (bv 0) T.aD T.nB (nz T) (hr.mono (by decide)) T.pB) (ae (aE (by rfl) (bv 0) T.aD T.gN (gL T) (hr.mono (by decide)) T.iA) aq)))))
   (aj (br (P3W.pt (fQ (aI (ee (by rfl) hr) (P3.opd (Dl rfl (gP (by rfl) (p3v 5)) fg (fun _ _ _ _ _=>(cE (i:=0) fg.nd rfl (Or.inl rfl))) (fun _ _ _ _ _=>(cg (cb (ay (by rfl) (ny T) (hr.mono (by decide)) (by rfl) T.pd T.kK.kp T.pA (aa (P3.opd (p3v 0)) af))))) (fun _ _ _ _ _=>(p3v 0)))) (P3.opd (bR aq)) (aR _)) (eM (aI (ee (by rfl) hr) (bv 5) (P3.opd (bR (ae (bz (by rfl) (bv 1) (P3.opd ag) (fun _ _=>rfl)) (ae (bz (by rfl) (bv 1) (P3.opd ag) (fun _ _=>rfl)) (ae (ax (dm (by rfl)) (by rfl) T.z_len (by decide +kernel) (aa (bv 3) af)) aq))))) (aR _))))) (ak (aw fE)) a_)
   (aj (br (P3W.pt (fQ (cg (cb (ax (Hy T.tys) (by rfl) T.z_isinstance (by decide +kernel) (aa (P3.opd (aE (by rfl) (bv 0) T.aD T.qB (qA T) (hr.mono (by decide)) T.tR)) (aa (P3.opd (qy (n:="str") (by rfl) T.z_str (by decide +kernel))) af))))) (fQ (aI (ee (by rfl) hr) (P3.opd (aE (by rfl) (bv 0) T.aD T.qB (qA T) (hr.mono (by decide)) T.tR)) (bv 3) (aR _)) (eM (aI (ee (by rfl) hr) (P3.opd (P3.or (aE (by rfl) (P3.opd (aE (by rfl) (bv 0) T.aD T.bQ (bP T) (hr.mono (by decide)) T.cf)) T.fj T.oU (oO T) (hr.mono (by decide)) T.qK) (P3.or (aE (by rfl) (P3.opd (aE (by rfl) (bv 0) T.aD T.bQ (bP T) (hr.mono (by decide)) T.cf)) T.df T.lU (lR T) (hr.mono (by decide)) T.nN) (P3.or (aE (by rfl) (P3.opd (aE (by rfl) (bv 0) T.aD T.bQ (bP T) (hr.mono (by decide)) T.cf)) T.gG T.kS (kQ T) (hr.mono (by decide)) T.mH) (aE (by rfl) (P3.opd (aE (by rfl) (bv 0) T.aD T.bQ (bP T) (hr.mono (by decide)) T.cf)) T.cM T.kR (kP T) (hr.mono (by decide)) T.mG))))) (bv 2) (aR _)))))) (ak (aw fE)) a_)
   (aj (iu (is:=[6,7]) (by rfl) (FQ (hr:=hr) (bv 2) (by decide +kernel) (vU (bO (nQ (bO gx (bO gx el))) (bO (nQ (bO (As vp gx) el)) el))) (vU (bO (nQ (bO gx (bO gx el))) (bO (nQ (bO (As vp gx) el)) el))) (vU (bO (nQ (bO gx (bO gx el))) (bO (nQ (bO (As vp gx) el)) el))) (wu (cj (mX (cj (uT (d:=.int 5) fun _=>rfl) (cj (uT (d:=.int 18) fun _=>rfl) fW)) (by decide +kernel)) (cj (mX (cj (lit_neg (i:=3)) fW) (by decide +kernel)) fW)) (by decide +kernel)) (wu (cj (mX (cj (uT (d:=.int 1) fun _=>rfl) (cj (uT (d:=.int 9) fun _=>rfl) fW)) (by decide +kernel)) (cj (mX (cj (lit_neg (i:=1)) fW) (by decide +kernel)) fW)) (by decide +kernel)) (wu (cj (mX (cj (uT (d:=.int 2) fun _=>rfl) (cj (uT (d:=.int 9) fun _=>rfl) fW)) (by decide +kernel)) (cj (mX (cj (lit_neg (i:=3)) fW) (by decide +kernel)) fW)) (by decide +kernel))) (av (aA (i:=6) bu.nd rfl (Or.inl rfl)) (av (aA (i:=7) bu.nd rfl (Or.inl rfl)) b_)) rfl)
   (aj (br (aI (gn (by rfl) hr) (bv 2) (P3.opd bA) (aR _)) (ak (aZ (i:=7) bu.nd rfl (Or.inl rfl) (bR (ae (fR (P3.opd ag)) aq)))) a_)
   (aj (br (P3W.pt (fQ (aI (ee (by rfl) hr) (P3.opd (P3.or (aS (by rfl) (P3.opd (aE (by rfl) (bv 0) T.aD T.bQ (bP T) (hr.mono (by decide)) T.cf)) T.fj T.sM (fU T) (hr.mono (by decide)) T.gS (aa (P3.opd (bR (ae ag (ae ag (ae ag aq))))) af)) (P3.or (aS (by rfl) (P3.opd (aE (by rfl) (bv 0) T.aD T.bQ (bP T) (hr.mono (by decide)) T.cf)) T.df T.p3 (fU T) (hr.mono (by decide)) T.gS (aa (P3.opd (bR (ae ag (ae ag (ae ag aq))))) af)) (P3.or (aS (by rfl) (P3.opd (aE (by rfl) (bv 0) T.aD T.bQ (bP T) (hr.mono (by decide)) T.cf)) T.gG T.o_ (fU T) (hr.mono (by decide)) T.gS (aa (P3.opd (bR (ae ag (ae ag (ae ag aq))))) af)) (aS (by rfl) (P3.opd (aE (by rfl) (bv 0) T.aD T.bQ (bP T) (hr.mono (by decide)) T.cf)) T.cM T.oY (fU T) (hr.mono (by decide)) T.gS (aa (P3.opd (bR (ae ag (ae ag (ae ag aq))))) af)))))) (P3.opd (bL (ae (p3v 6) (ae (p3v 7) aq)))) (aR _)) (eM (aI (ee (by rfl) hr) (P3.opd (P3.or (aS (by rfl) (P3.opd (aE (by rfl) (bv 0) T.aD T.bQ (bP T) (hr.mono (by decide)) T.cf)) T.fj T.wc (iw T) (hr.mono (by decide)) T.jn (aa (P3.opd (p3v 6)) (aa (P3.opd (p3v 7)) af))) (P3.or (aS (by rfl) (P3.opd (aE (by rfl) (bv 0) T.aD T.bQ (bP T) (hr.mono (by decide)) T.cf)) T.df T.sO (iw T) (hr.mono (by decide)) T.jn (aa (P3.opd (p3v 6)) (aa (P3.opd (p3v 7)) af))) (P3.or (aS (by rfl) (P3.opd (aE (by rfl) (bv 0) T.aD T.bQ (bP T) (hr.mono (by decide)) T.cf)) T.gG T.rm (iw T) (hr.mono (by decide)) T.jn (aa (P3.opd (p3v 6)) (aa (P3.opd (p3v 7)) af))) (aS (by rfl) (P3.opd (aE (by rfl) (bv 0) T.aD T.bQ (bP T) (hr.mono (by decide)) T.cf)) T.cM T.rl (iw T) (hr.mono (by decide)) T.jn (aa (P3.opd (p3v 6)) (aa (P3.opd (p3v 7)) af))))))) (P3.opd (bR (ae ag (ae ag (ae ag aq))))) (aR _))))) (ak (aw fE)) a_)
   (aj (eS PassesOwn.never rfl (eN (by rfl) T.z_range (ae (aJ (P3.opd (ax (dm (by rfl)) (by rfl) T.z_len (by decide +kernel) (aa (bv 3) af))) (P3.opd ag)) aq)) (cE (i:=8) bu.nd rfl (Or.inl rfl))
   (ak (br (aI (ee (by rfl) hr) (P3.opd (ax (kJ (by rfl) hr) (by rfl) T.z_repr (by decide +kernel) (aa (P3.opd (aS (by rfl) (bv 0) T.aD T.sN (sD T) (hr.mono (by decide)) T.ur (aa (P3.opd (p3v 8)) af))) af))) (P3.opd (ax (kJ (by rfl) hr) (by rfl) T.z_repr (by decide +kernel) (aa (P3.opd (bz (by rfl) (bv 4) (bv 8) (fun _ _=>rfl))) af))) (aR _)) (ak (aw fE)) a_)))
   (ak (aw fE)))))))))),fun Γa Q h hl=>?_⟩)
 obtain⟨R,h,w,ls,rfl,sz,g,hls,q⟩:=h
 walk_at "xb"
 refine⟨h,w,ls,rfl,hls,?_⟩
 walk_at "xb"
 refine⟨by decide +kernel,R,h,w,ls,rfl,hls,?_⟩
 walk_at "xb"
 refine⟨by decide +kernel,R,h,w,ls,rfl,hls,?_⟩
 walk_at "xb"
 refine⟨by decide +kernel,R,h,w,ls,rfl,hls,?_⟩
 walk_at "xb"
 refine⟨z3,B6 (fun k ys Γc=>ys=[]∧∃ s,Γc=[fo s]) ⟨rfl,none,rfl⟩ ?_ ?_⟩
 ·rintro k d ys Γc hd ⟨rfl,s,rfl⟩
  obtain⟨i,rfl⟩:=three hd
  walk_at "xb"
  refine⟨i,rfl,?_⟩
  walk_at "xb"
  exact⟨rfl,some _,rfl⟩
 rintro ys Γc ⟨rfl,s,rfl⟩
 refine⟨z0,?_⟩
 walk_at "xb"
 refine⟨Nat.zero_le _,by rw[b8,sizeLine_eq];omega,z3,?_⟩
 refine⟨true,by rw[b8];exact tu,?_⟩
 walk_at "xb"
 refine⟨by decide +kernel,R,h,w,ls,rfl,hls,?_⟩
 walk_at "xb"
 refine⟨by decide +kernel,R,h,w,ls,rfl,hls,?_⟩
 walk_at "xb"
 have zw:ls.length≤sizeLine:=by rw[sizeLine_eq];omega
 refine sx R ?_
 rw[show R.sel (j5 "sum") (j5 "half") (j5 "guess") (j5 "lean")=j5 R.word by cases R <;> rfl]
 walk_at "xb"
 refine⟨by decide +kernel,R,h,w,ls,rfl,hls,?_⟩
 walk_at "xb"
 refine⟨_,rfl,?_⟩
 walk_at "xb"
 rw[dgR R]
 walk_at "xb"
 refine jo (fun e=>?_) (fun e=>?_)
 ·have hR:R=.lean:=by cases R <;> first | rfl | exact absurd e (by decide +kernel)
  subst hR
  have e1:Rl.lean.sums [1,4,9]=[2,9]:=by decide +kernel
  have e2:Rl.lean.dif [1,4,9]=[-1]:=by decide +kernel
  have e3:AJ .lean [2,9] [-1]=[1,4,9]:=by decide +kernel
  have f1:Fig [2,9]:=Gz (by decide) (by decide)
  have f2:Fig [-1]:=GA (by decide)
  have l1:1≤([-1]:List Int).length:=by decide
  have l2:([-1]:List Int).length≤([2,9]:List Int).length:=by decide
  have l3:([2,9]:List Int).length≤([-1]:List Int).length + 1:=by decide
  have l4:([2,9]:List Int).length + ([-1]:List Int).length≤64:=by decide
  walk_at "xb"
  refine⟨z1,?_⟩
  walk_at "xb"
  refine sx Rl.lean ?_
  rw[show Rl.lean.sel (ez a) (ez a) (ez a) (ez a)=ez a by rfl]
  walk_at "xb"
  refine⟨by decide +kernel,Rl.lean,h,w,ls,rfl,hls,?_⟩
  walk_at "xb"
  refine⟨z3,Rl.lean,[1,4,9],rfl,KR,by decide,by decide,?_⟩
  walk_at "xb"
  refine⟨z2,true,?_,?_⟩
  ·rw[e1,e2];exact Ei (xs:=[2,9]) (ys:=[-1])
  walk_at "xb"
  refine sx Rl.lean ?_
  rw[show Rl.lean.sel (i4 a) (i4 a) (i4 a) (i4 a)=i4 a by rfl]
  walk_at "xb"
  refine⟨by decide +kernel,Rl.lean,h,w,ls,rfl,hls,?_⟩
  walk_at "xb"
  refine⟨Rl.lean,[2,9],[-1],rfl,f1,f2,l1,l2,l3,l4,?_⟩
  rw[e3]
  walk_at "xb"
  refine⟨z3,true,tu,?_⟩
  walk_at "xb"
  rw[b8]
  refine⟨zw,by omega,by omega,dF (fun k Γ=>∃ s,Γ=[some (.fz (plD a Rl.lean h w ls)),some (.fz (pD h w)),some (.fz (.str Rl.lean.word)),some (.fz (.str (wy ls))),some (.ow (.lst ((gk h w ls).map cD))),some (.fz (.lst [.int h,.int w,.int ls.length])),some (.fz (il [2,9])),some (.fz (il [-1])),fo s]) ⟨none,rfl⟩ ?_ ?_⟩
  ·rintro k d Γ hd ⟨s,rfl⟩
   obtain⟨lk,rfl⟩:=fP hd
   rw[Int.zero_add]
   walk_at "xb"
   refine⟨by decide +kernel,Rl.lean,h,w,ls,k,rfl,hls,by omega,?_⟩
   have ce:cD (cat h w ls k)=.tup [.int (cat h w ls k).1,.int (cat h w ls k).2]:=rfl
   rw[ce]
   walk_at "xb"
   refine⟨vz g sz (by omega),dU.mpr ⟨_,iC (by omega),?_⟩⟩
   rw[ce]
   walk_at "xb"
   exact⟨vz g sz (by omega),some _,rfl⟩
  ·rintro Γ ⟨s,rfl⟩
   walk_at "xb"
   exact q
 ·have hR:R≠.lean:=fun z=>by subst z;exact absurd e (by decide +kernel)
  obtain⟨e1,e2,e3,f1,f2,l1,l2,l3,l4⟩:=F9 R hR
  walk_at "xb"
  refine sx R ?_
  rw[show R.sel (ez a) (ez a) (ez a) (ez a)=ez a by cases R <;> rfl]
  walk_at "xb"
  refine⟨by decide +kernel,R,h,w,ls,rfl,hls,?_⟩
  walk_at "xb"
  refine⟨z3,R,[1,4,9],rfl,KR,by decide,by decide,?_⟩
  walk_at "xb"
  refine⟨z2,true,?_,?_⟩
  ·rw[e1,e2];exact Ei (xs:=R.sA) (ys:=R.sP)
  walk_at "xb"
  refine sx R ?_
  rw[show R.sel (i4 a) (i4 a) (i4 a) (i4 a)=i4 a by cases R <;> rfl]
  walk_at "xb"
  refine⟨by decide +kernel,R,h,w,ls,rfl,hls,?_⟩
  walk_at "xb"
  refine⟨R,R.sA,R.sP,rfl,f1,f2,l1,l2,l3,l4,?_⟩
  rw[e3]
  walk_at "xb"
  refine⟨z3,true,tu,?_⟩
  walk_at "xb"
  rw[b8]
  refine⟨zw,by omega,by omega,dF (fun k Γ=>∃ s,Γ=[some (.fz (plD a R h w ls)),some (.fz (pD h w)),some (.fz (.str R.word)),some (.fz (.str (wy ls))),some (.ow (.lst ((gk h w ls).map cD))),some (.fz (.lst [.int h,.int w,.int ls.length])),some (.fz (il R.sA)),some (.fz (il R.sP)),fo s]) ⟨none,rfl⟩ ?_ ?_⟩
  ·rintro k d Γ hd ⟨s,rfl⟩
   obtain⟨lk,rfl⟩:=fP hd
   rw[Int.zero_add]
   walk_at "xb"
   refine⟨by decide +kernel,R,h,w,ls,k,rfl,hls,by omega,?_⟩
   have ce:cD (cat h w ls k)=.tup [.int (cat h w ls k).1,.int (cat h w ls k).2]:=rfl
   rw[ce]
   walk_at "xb"
   refine⟨vz g sz (by omega),dU.mpr ⟨_,iC (by omega),?_⟩⟩
   rw[ce]
   walk_at "xb"
   exact⟨vz g sz (by omega),some _,rfl⟩
  ·rintro Γ ⟨s,rfl⟩
   walk_at "xb"
   exact q
def IM (a:Ad):S3:=fun Γ Q=>∃ (R:Rl) (h w:Int) (ls:List Lt),Γ=[some (.fz (plD a R h w ls)),some (.fz (pD h w)),some (.fz (.str (wy ls)))]∧iE h w∧Good h w ls∧ls.length≤10∧Q (.fz (.bl true)) Γ
theorem Jd {h w:Int} {ls:List Lt} {p:Pt} (o:tT h w ls p) (d:D) (hd:d∈plc p.t p.l p.hh p.ww):∃ y x,d=pD y x∧p.t≤y∧y < p.t + p.hh∧p.l≤x∧x < p.l + p.ww:=by
 unfold plc at hd
 rw[List.mem_flatten] at hd
 obtain⟨xs,hxs,hd⟩:=hd
 obtain⟨y,hy,rfl⟩:=List.mem_map.mp hxs
 obtain⟨x,hx,rfl⟩:=List.mem_map.mp hd
 have hy:=List.mem_range.mp hy
 have hx:=List.mem_range.mp hx
 exact⟨_,_,rfl,by omega,by omega,by omega,by omega⟩
theorem DW {h w:Int} {ls:List Lt} {p:Pt} (o:tT h w ls p) (d:D) (hd:d∈[D.tup [.int p.t,.int p.l],D.tup [.int (p.t + p.hh - 1),.int (p.l + p.ww - 1)],D.tup [.int (p.t + p.hh / 2),.int (p.l + p.ww / 2)]]):∃ y x,d=pD y x∧p.t≤y∧y < p.t + p.hh∧p.l≤x∧x < p.l + p.ww:=by
 have:=o.h1
 have:=o.w1
 simp only[List.mem_cons,List.not_mem_nil,or_false] at hd
 rcases hd with rfl | rfl | rfl
 ·exact⟨_,_,rfl,by omega,by omega,by omega,by omega⟩
 ·exact⟨_,_,rfl,by omega,by omega,by omega,by omega⟩
 ·exact⟨_,_,rfl,by omega,by omega,by omega,by omega⟩
theorem eu (T:Txt K mg a):aT P w K mg base CX0 4 a.eY a.eB ["_law_plan","_law_size_here","_law_way_here"] (sp3 K 3 (IM a)):=by
 refine ok3 T.dC aG (hbody:=fun cdv A outer s H E hr=>⟨_,_,(aj (aZ (i:=3) aG.nd rfl (Or.inl rfl) (ay (by rfl) (ug T) (hr.mono (by decide)) (by rfl) T.wm T.pK.kp T.xf (aa (P3.opd (p3v 1)) (aa (P3.opd (p3v 2)) af))))
   (aj (br (P3W.pt (fQ (aI (ee (by rfl) hr) (P3.opd (ax (kJ (by rfl) hr) (by rfl) T.z_repr (by decide +kernel) (aa (P3.opd (aE (by rfl) (bv 0) T.aD T.fc (e_ T) (hr.mono (by decide)) T.gp)) af))) (P3.opd (ax (kJ (by rfl) hr) (by rfl) T.z_repr (by decide +kernel) (aa (bv 3) af))) (aR _)) (eM (aI (ee (by rfl) hr) (P3.opd (ax (kJ (by rfl) hr) (by rfl) T.z_repr (by decide +kernel) (aa (P3.opd (aE (by rfl) (bv 0) T.aD T.gO (gM T) (hr.mono (by decide)) T.iB)) af))) (P3.opd (ax (kJ (by rfl) hr) (by rfl) T.z_repr (by decide +kernel) (aa (P3.opd (ay (by rfl) (uh T) (hr.mono (by decide)) (by rfl) T.wo T.pM.kp T.xg (aa (P3.opd (p3v 3)) af))) af))) (aR _))))) (ak (aw fE)) a_)
   (aj (eS PassesOwn.never rfl (gP (by rfl) (p3v 3)) (hU (is:=[4,5,6,7,8,9]) (by rfl) (av (aA (i:=4) aG.nd rfl (Or.inl rfl)) (av (aA (i:=5) aG.nd rfl (Or.inl rfl)) (av (aA (i:=6) aG.nd rfl (Or.inr rfl)) (av (aA (i:=7) aG.nd rfl (Or.inr rfl)) (av (aA (i:=8) aG.nd rfl (Or.inl rfl)) (av (aA (i:=9) aG.nd rfl (Or.inr rfl)) b_)))))) rfl)
   (aj (aZ (i:=10) aG.nd rfl (Or.inl rfl) (bR (ae (bL (ae (p3v 6) (ae (p3v 7) aq))) (ae (bL (ae (cG (P3.opd (aJ (bv 6) (bv 8))) (P3.opd ag)) (ae (cG (P3.opd (aJ (bv 7) (bv 9))) (P3.opd ag)) aq))) (ae (bL (ae (aJ (bv 6) (P3.opd (cI (bv 8) (P3.opd ag)))) (ae (aJ (bv 7) (P3.opd (cI (bv 9) (P3.opd ag)))) aq))) aq)))))
   (aj (br (aI qG (P3.opd (g0 (P3.opd (bz (by rfl) (bv 1) (P3.opd ag) (fun _ _=>rfl))) (P3.opd (bz (by rfl) (bv 1) (P3.opd ag) (fun _ _=>rfl))))) (P3.opd ag) (aR _)) (ak (fm (i:=10) aG.nd rfl rfl rfl (eN (by rfl) T.z_range (ae (g0 (bv 8) (bv 9)) aq)) fH (fun _ _ _ _ _=>(cE (i:=0) fH.nd rfl (Or.inl rfl))) (fun _ _ _ _ _=>(bL (ae (aJ (bv 2) (P3.opd (cI (bv 0) (bv 3)))) (ae (aJ (bv 1) (P3.opd (nU (bv 0) (bv 3)))) aq)))))) a_)
   (ak (eS PassesOwn.never rfl (gP (by rfl) (p3v 10)) (cE (i:=11) aG.nd rfl (Or.inl rfl))
   (aj (aZ (i:=12) aG.nd rfl (Or.inl rfl) (aS (by rfl) (bv 0) T.aD T.pW (pV T) (hr.mono (by decide)) T.rA (aa (P3.opd (p3v 11)) af)))
   (ak (br (P3W.pt (fQ (cg (cb (ay (by rfl) (ny T) (hr.mono (by decide)) (by rfl) T.pd T.kK.kp T.pA (aa (P3.opd (p3v 12)) af)))) (eM (aI (ee (by rfl) hr) (bv 12) (P3.opd (ay (by rfl) (v9 T) (hr.mono (by decide)) (by rfl) T.yd T.qU.kp T.yC (aa (P3.opd (p3v 2)) (aa (P3.opd (p3v 4)) af)))) (aR _))))) (ak (aw fE)) a_))))))))
   (ak (aw fE))))),fun Γa Q h hl=>?_⟩)
 obtain⟨R,h,w,ls,rfl,sz,g,hls,q⟩:=h
 walk_at "xb"
 refine⟨h,w,ls,rfl,hls,?_⟩
 walk_at "xb"
 refine⟨by decide +kernel,R,h,w,ls,rfl,hls,?_⟩
 walk_at "xb"
 refine⟨(yV g sz hls).up (by decide) (by decide),(yV g sz hls).up (by decide) (by decide),?_⟩
 walk_at "xb"
 refine⟨by decide +kernel,R,h,w,ls,rfl,sz,g,hls,?_⟩
 walk_at "xb"
 refine⟨(yW g sz hls).up (by decide) (by decide),h,w,ls,rfl,sz,g,hls,?_⟩
 walk_at "xb"
 refine⟨(yW g sz hls).up (by decide) (by decide),?_⟩
 refine dF (fun k Γ=>∃ s4 s5 s6 s7 s8 s9 s10 s11 s12,Γ=[some (.fz (plD a R h w ls)),some (.fz (pD h w)),some (.fz (.str (wy ls))),some (.fz (.lst ((pts h w ls).map Pt.D))),fo s4,fo s5,fo s6,fo s7,fo s8,fo s9,fo s10,fo s11,fo s12]) ⟨none,none,none,none,none,none,none,none,none,rfl⟩ ?_ ?_
 ·rintro k d Γ hd ⟨s4,s5,s6,s7,s8,s9,s10,s11,s12,rfl⟩
  obtain⟨p,hp,rfl⟩:=vQ hd
  have o:=lH g sz p (List.mem_of_getElem? hp)
  have b:=o.b g sz
  rw[show p.D=.tup [.int p.s,.str p.wd,.int p.t,.int p.l,.int p.hh,.int p.ww] from rfl]
  walk_at "xb"
  have s1:=sz.h1
  have s2:=sz.h2
  have o1:=o.h1
  have o2:=o.w1
  refine⟨z2,z2,⟨by decide,by decide⟩,⟨by decide,by decide⟩,z2,z3,.inl ⟨by omega,by omega⟩,jo (fun hh=>?_) (fun hh=>?_)⟩
  ·walk_at "xb"
   have pe:=y8 (t:=p.t) (l:=p.l) (hh:=p.hh) (ww:=p.ww) (by omega) (by omega)
   have hn:(p.hh * p.ww).toNat≤4096:=by
    have e:=congrArg List.length pe
    rw[List.length_map,List.length_range] at e
    rw[e];exact vR b
   have hp0:0≤p.hh * p.ww:=Int.mul_nonneg (by omega) (by omega)
   have bh:=b.h1
   have bw:=b.w1
   refine⟨.inl ⟨by omega,by omega⟩,by omega,by omega,by rw[fh,sizeLine_eq];omega,ff (fun i ys Γc=>ys=(List.range i).map (fun (i:Nat)=>D.tup [.int (p.t + (i:Int) / p.ww),.int (p.l + (i:Int) % p.ww)])∧∃ s,Γc=[fo s,some (.fz (.int p.l)),some (.fz (.int p.t)),some (.fz (.int p.ww))]) ⟨rfl,none,rfl⟩ ?_ ?_⟩
   ·rintro i d ys Γc hd hl ⟨rfl,s,rfl⟩
    obtain⟨lk,rfl⟩:=fP hd
    rw[Int.zero_add]
    walk_at "xb"
    exact⟨⟨by omega,by omega⟩,by omega,z2,snoc rfl,some _,rfl⟩
   rintro ys Γc hl ⟨rfl,s,rfl⟩
   rw[fh,pe]
   walk_at "xb"
   refine dF (fun j Γ=>∃ s10 s11 s12,Γ=[some (.fz (plD a R h w ls)),some (.fz (pD h w)),some (.fz (.str (wy ls))),some (.fz (.lst ((pts h w ls).map Pt.D))),some (.fz (.int p.s)),some (.fz (.str p.wd)),some (.fz (.int p.t)),some (.fz (.int p.l)),some (.fz (.int p.hh)),some (.fz (.int p.ww)),fo s10,fo s11,fo s12]) ⟨some _,s11,s12,rfl⟩ ?_ ?_
   ·rintro j d Γ hd ⟨s10,s11,s12,rfl⟩
    obtain⟨y,x,rfl,y1,y2,x1,x2⟩:=(Jd o) d (List.mem_of_getElem? hd)
    walk_at "xb"
    refine⟨by decide +kernel,R,h,w,ls,y,x,rfl,hls,DX g sz o y1 y2 x1 x2,?_⟩
    walk_at "xb"
    refine⟨_,rfl,?_⟩
    walk_at "xb"
    refine⟨ls,p.s,rfl,hls,Nat.le_trans o.s hls,?_⟩
    rw[AR g sz o y1 y2 x1 x2]
    walk_at "xb"
    exact⟨s10,some _,some _,rfl⟩
   ·rintro Γ ⟨s10,s11,s12,rfl⟩
    walk_at "xb"
    exact⟨some _,some _,some _,some _,some _,some _,s10,s11,s12,rfl⟩
  ·walk_at "xb"
   refine dF (fun j Γ=>∃ s10 s11 s12,Γ=[some (.fz (plD a R h w ls)),some (.fz (pD h w)),some (.fz (.str (wy ls))),some (.fz (.lst ((pts h w ls).map Pt.D))),some (.fz (.int p.s)),some (.fz (.str p.wd)),some (.fz (.int p.t)),some (.fz (.int p.l)),some (.fz (.int p.hh)),some (.fz (.int p.ww)),fo s10,fo s11,fo s12]) ⟨some _,s11,s12,rfl⟩ ?_ ?_
   ·rintro j d Γ hd ⟨s10,s11,s12,rfl⟩
    obtain⟨y,x,rfl,y1,y2,x1,x2⟩:=(DW o) d (List.mem_of_getElem? hd)
    walk_at "xb"
    refine⟨by decide +kernel,R,h,w,ls,y,x,rfl,hls,DX g sz o y1 y2 x1 x2,?_⟩
    walk_at "xb"
    refine⟨_,rfl,?_⟩
    walk_at "xb"
    refine⟨ls,p.s,rfl,hls,Nat.le_trans o.s hls,?_⟩
    rw[AR g sz o y1 y2 x1 x2]
    walk_at "xb"
    exact⟨s10,some _,some _,rfl⟩
   ·rintro Γ ⟨s10,s11,s12,rfl⟩
    walk_at "xb"
    exact⟨some _,some _,some _,some _,some _,some _,s10,s11,s12,rfl⟩
 ·rintro Γ ⟨s4,s5,s6,s7,s8,s9,s10,s11,s12,rfl⟩
  walk_at "xb"
  exact q
def JS:S3:=fun Γ Q=>∃ (d:D) (c:Int) (xs:List D),Γ=[some (.ln d),some (.ln (.lst xs))]∧Box c d∧c≤90∧xs.length≤100000∧∀ d' e,Box (c + 2) d'→Q (.fz .non) [some (.ln d'),some (.ln e)]
theorem lN (T:Txt K mg a):aT P w K mg base CX0 2 a.jD a.iO ["_law_box_here","_law_some"] (sp3 K 2 JS):=by
 refine ok3 T.jJ lE (hbody:=fun cdv A outer s H E hr=>⟨_,_,(aj (aZ (i:=2) lE.nd rfl (Or.inl rfl) (ay (by rfl) (cC T) (hr.mono (by decide)) (by rfl) T.c_ T.cH.kp T.da (aa (bv 0) (aa (P3.opd ag) af))))
   (ak (br (P3W.pt (fQ (aI (gn (by rfl) hr) (bv 2) (P3.opd ag) (aR _)) (eM (aI (gn (by rfl) hr) (bv 1) (P3.opd (bR aq)) (aR _))))) (ak (bN (Dm 1 (by rfl) (bv 1)))) (ak (br (aI (gn (by rfl) hr) (bv 2) (P3.opd ag) (aR _)) (ak (bN (ze 1 (by rfl) (bv 1)))) (ak (br (aI (gn (by rfl) hr) (bv 2) (P3.opd ag) (aR _)) (ak (bN (FP 1 (by rfl) (bv 1)))) (ak (br (aI (gn (by rfl) hr) (bv 2) (P3.opd ag) (aR _)) (ak (bN (Di 1 (by rfl) (bv 1)))) (ak (br (aI (gn (by rfl) hr) (bv 2) (P3.opd ag) (aR _)) (ak (bN (uO 1 (by rfl) (bv 1) (ay (by rfl) (cC T) (hr.mono (by decide)) (by rfl) T.c_ T.cH.kp T.da (aa (bv 0) (aa (P3.opd (aJ (P3.opd (ax (dm (by rfl)) (by rfl) T.z_len (by decide +kernel) (aa (bv 1) af))) (P3.opd ag))) af))) (bz (by rfl) (bv 1) (P3.opd ag) (fun _ _=>rfl))))) (ak (br (aI (gn (by rfl) hr) (bv 2) (P3.opd ag) (aR _)) (aj (r_ 1 (bv 1) (P3.opd ag) (bz (by rfl) (bv 1) (P3.opd (fR (P3.opd ag))) (fun _ _=>rfl)))
   (ak (bN (cJ 1 (by rfl) (bv 1) (bz (by rfl) (bv 1) (P3.opd ag) (fun _ _=>rfl)))))) (ak (bN (uO 1 (by rfl) (bv 1) ag (Di 1 (by rfl) (bv 1)))))))))))))))))),fun Γa Q h hl=>?_⟩)
 obtain⟨d,c,xs,rfl,hb,hc,hx,q⟩:=h
 walk_at "xb"
 refine⟨_,_,7,rfl,hb,by omega,by decide,by decide,fun r1 d1 l1 u1 b1=>?_⟩
 walk_at "xb"
 have zx:xs.length < sizeLine:=by rw[sizeLine_eq];omega
 refine K6 (fun h=>?_) (fun h0=>?_)
 ·walk_at "xb"
  exact q _ _ (b1.up (by omega))
 walk_at "xb"
 refine⟨Nat.zero_le _,jo (fun h=>?_) (fun he=>?_)⟩
 ·walk_at "xb"
  exact q _ _ (b1.up (by omega))
 obtain⟨x,xs,rfl⟩:∃ x ys,xs=x::ys:=by
  cases xs with
  | nil=>cases he
  | cons x ys=>exact⟨x,ys,rfl⟩
 walk_at "xb"
 refine jo (fun h=>?_) (fun h1=>?_)
 ·walk_at "xb"
  exact q _ _ (b1.up (by omega))
 walk_at "xb"
 refine jo (fun h=>?_) (fun h2=>?_)
 ·walk_at "xb"
  exact q _ _ (b1.up (by omega))
 have hla:(x::xs)[xs.length + 1 - 1]?=some ((x::xs)[xs.length]):=List.getElem?_eq_getElem (by simp)
 walk_at "xb"
 refine jo (fun h=>?_) (fun h3=>?_)
 ·walk_at "xb"
  rw[hla]
  walk_at "xb"
  exact q _ _ (b1.up (by omega))
 rw[List.length_cons] at hx
 walk_at "xb"
 refine jo (fun h=>?_) (fun h4=>?_)
 ·walk_at "xb"
  refine⟨_,_,_,rfl,b1,by omega,by omega,by omega,fun r2 d2 l2 u2 b2=>?_⟩
  walk_at "xb"
  exact⟨l2,by omega,zx,q _ _ (b2.up (by omega))⟩
 have hlb:atI (x::xs) (-1)=some ((x::xs)[xs.length]):=rK hla
 walk_at "xb"
 refine jo (fun h=>?_) (fun h5=>?_)
 ·walk_at "xb"
  rw[hlb]
  walk_at "xb"
  rw[show ixN (xs.length + 1) 0=some 0 by unfold ixN;rw[if_pos (by omega),if_pos (by omega)];rfl]
  walk_at "xb"
  exact⟨zx,q _ _ (b1.up (by omega))⟩
 walk_at "xb"
 rw[hla]
 walk_at "xb"
 exact⟨by decide,by omega,by rw[List.length_dropLast,sizeLine_eq];simp only[List.length_cons];omega,q _ _ (b1.up (by omega))⟩
theorem K_:Str.ofString "rb"=wy [.r,.b]:=by decide +kernel
theorem words:∀ v∈[D.str "sum",.str "half",.str "guess",.str "lean"],∃ R:Rl,v=.str R.word:=by
 intro v h
 simp only[List.mem_cons,List.not_mem_nil,or_false] at h
 rcases h with rfl | rfl | rfl | rfl
 ·exact⟨.sum,rfl⟩
 ·exact⟨.half,rfl⟩
 ·exact⟨.guess,rfl⟩
 ·exact⟨.lean,rfl⟩
theorem vy:iE 3 5:=⟨by decide,by decide,by decide,by decide,by decide⟩
theorem wI:Good 3 5 [.r,.b]:=⟨⟨fun _=>by decide,fun n=>absurd rfl n⟩,⟨fun _=>by decide,fun _=>by decide⟩,trivial⟩
theorem F7 (T:Txt K mg a):aT P w K mg base CX0 7 a.AW a.wN ["_law_script"] (sp3 K 1 (Hf 63)):=by
 refine ok3 T.Le jq (hbody:=fun cdv A outer s H E hr=>⟨_,_,(aj (eS PassesOwn.never rfl (eN (by rfl) T.z_range (ae (ax (EG rfl) (by rfl) T.z_max (by decide +kernel) (aa (P3.opd ag) (aa (P3.opd (ax (EF rfl) (by rfl) T.z_min (by decide +kernel) (aa (P3.opd (ax (dm (by rfl)) (by rfl) T.z_len (by decide +kernel) (aa (bv 0) af))) (aa (P3.opd ag) af)))) af))) aq)) (cE (i:=1) jq.nd rfl (Or.inl rfl))
   (aj (aZ (i:=2) jq.nd rfl (Or.inl rfl) (ay (by rfl) (xY T) (hr.mono (by decide)) (by rfl) T.zA T.tV.kp T.z8 (aa (P3.opd (ay (by rfl) (v_ T) (hr.mono (by decide)) (by rfl) T.ye T.qV.kp T.yD (aa (P3.opd (p3v 0)) (aa (P3.opd (p3v 1)) af)))) af)))
   (aj (aZ (i:=3) jq.nd rfl (Or.inl rfl) (ay (by rfl) (v8 T) (hr.mono (by decide)) (by rfl) T.yc T.qT.kp T.yB (aa (bv 2) af)))
   (aj (aZ (i:=4) jq.nd rfl (Or.inl rfl) (bz (by rfl) (P3.opd (bR (ae bA (ae bA (ae bA (ae bA aq)))))) (P3.opd (ay (by rfl) (cC T) (hr.mono (by decide)) (by rfl) T.c_ T.cH.kp T.da (aa (bv 2) (aa (P3.opd ag) af)))) (fun _ _=>rfl)))
   (aj (aZ (i:=5) jq.nd rfl (Or.inl rfl) (ay (by rfl) (xX T) (hr.mono (by decide)) (by rfl) T.zz T.tU.kp T.z7 (aa (bv 2) (aa (P3.opd (p3v 3)) af))))
   (aj (aZ (i:=6) jq.nd rfl (Or.inl rfl) (Az T.mk_Plan (jL T) (hr.mono (by decide)) (by rfl) T.AH T.kT (ae (bz (by rfl) (bv 3) (P3.opd ag) (fun _ _=>rfl)) (ae (bz (by rfl) (bv 3) (P3.opd ag) (fun _ _=>rfl)) (ae (p3v 4) (ae (p3v 5) aq))))))
   (aj (eS PassesOwn.never rfl (eN (by rfl) T.z_range (ae ag aq)) (cE (i:=7) jq.nd rfl (Or.inl rfl))
   (aj (br (P3W.pt (fQ (cg (cb (ay (by rfl) (eu T) (hr.mono (by decide)) (by rfl) T.eU T.dC.kp T.eZ (aa (P3.opd (p3v 6)) (aa (P3.opd (p3v 3)) (aa (P3.opd (p3v 5)) af)))))) (eM (cg (cb (ay (by rfl) (k_ T) (hr.mono (by decide)) (by rfl) T.lV T.gZ.kp T.mD (aa (P3.opd (p3v 6)) (aa (P3.opd (p3v 3)) (aa (P3.opd (p3v 4)) (aa (P3.opd (p3v 5)) af)))))))))) (ak (aw fE)) a_)
   (aj (br (cg (cb (ay (by rfl) (eu T) (hr.mono (by decide)) (by rfl) T.eU T.dC.kp T.eZ (aa (P3.opd (Az T.mk_Plan (jL T) (hr.mono (by decide)) (by rfl) T.AH T.kT (ae ag (ae ag (ae bA (ae bA aq)))))) (aa (P3.opd (bL (ae ag (ae ag aq)))) (aa (P3.opd bA) af)))))) (ak (aw fE)) a_)
   (aj (aZ (i:=8) jq.nd rfl (Or.inl rfl) (bR (ae (aE (by rfl) (bv 6) T.aD T.fc (e_ T) (hr.mono (by decide)) T.gp) (ae (aE (by rfl) (bv 6) T.aD T.gO (gM T) (hr.mono (by decide)) T.iB) aq))))
   (aj (aZ (i:=9) jq.nd rfl (Or.inl rfl) (ax (kJ (by rfl) hr) (by rfl) T.z_repr (by decide +kernel) (aa (bv 8) af)))
   (aj (bN (xU (by rfl) (lN T) (hr.mono (by decide)) (by rfl) T.nC T.jJ.kp T.nJ (bv 2) (aE (by rfl) (bv 6) T.aD T.fc (e_ T) (hr.mono (by decide)) T.gp)))
   (aj (bN (xU (by rfl) (lN T) (hr.mono (by decide)) (by rfl) T.nC T.jJ.kp T.nJ (bv 2) (aE (by rfl) (bv 6) T.aD T.gO (gM T) (hr.mono (by decide)) T.iB)))
   (ak (br (P3W.pt (fQ (aI (ee (by rfl) hr) (P3.opd (ax (kJ (by rfl) hr) (by rfl) T.z_repr (by decide +kernel) (aa (P3.opd (bR (ae (aE (by rfl) (bv 6) T.aD T.fc (e_ T) (hr.mono (by decide)) T.gp) (ae (aE (by rfl) (bv 6) T.aD T.gO (gM T) (hr.mono (by decide)) T.iB) aq)))) af))) (bv 9) (aR _)) (eM (aI (ee (by rfl) hr) (P3.opd (ax (kJ (by rfl) hr) (by rfl) T.z_repr (by decide +kernel) (aa (bv 8) af))) (bv 9) (aR _))))) (ak (aw fE)) a_)))))))))
   (ak (br (cg (cb (ay (by rfl) (eu T) (hr.mono (by decide)) (by rfl) T.eU T.dC.kp T.eZ (aa (P3.opd (p3v 6)) (aa (P3.opd (p3v 3)) (aa (P3.opd (p3v 5)) af)))))) (ak (aw fE)) a_)))))))))
   (ak (aw fE))),fun Γa Q h hl=>?_⟩)
 obtain⟨ns,rfl,hn,q⟩:=h
 walk_at "xb"
 have m1:fmax 2 (fmin (ns.length:Int) 10)≤10:=by unfold fmax fmin;split <;> split <;> omega
 have m2:2≤fmax 2 (fmin (ns.length:Int) 10):=by unfold fmax fmin;split <;> split <;> omega
 refine⟨by omega,by omega,dF (fun k Γ=>∃ s1 s2 s3 s4 s5 s6 s7 s8 s9,Γ=[some (.fz (.scr ns)),fo s1,fw s2,fo s3,fo s4,fo s5,fo s6,fo s7,fw s8,fo s9]) ⟨none,none,none,none,none,none,none,none,none,rfl⟩ ?_ ?_⟩
 ·rintro k d Γ hd ⟨s1,s2,s3,s4,s5,s6,s7,s8,s9,rfl⟩
  obtain⟨lk,rfl⟩:=fP hd
  walk_at "xb"
  refine⟨ns,_,rfl,by omega,fun r0=>?_⟩
  walk_at "xb"
  refine⟨_,rfl,fun d0 b0=>?_⟩
  walk_at "xb"
  refine⟨_,rfl,b0,fun h w d1 sz b1=>?_⟩
  walk_at "xb"
  refine⟨z4,_,_,4,rfl,b1,by decide,by decide,by decide,fun r2 d2 l2 u2 b2=>?_⟩
  walk_at "xb"
  refine pick l2 u2 (p:=fun v=>∃ R:Rl,v=.str R.word) words (fun v hv=>?_)
  obtain⟨R,rfl⟩:=hv
  walk_at "xb"
  refine⟨d2,h,w,rfl,sz,b2,fun ls d3 hls g b3=>?_⟩
  walk_at "xb"
  refine⟨R,h,w,ls,rfl,sz,g,hls,?_⟩
  walk_at "xb"
  refine⟨by decide,by decide,?_⟩
  refine dF (fun j Γ=>∃ s7 s8 s9 d,Box (15 + 4 * j) d∧(Γ=[some (.fz (.scr ns)),some (.fz (.int (0 + k))),some (.ow d),some (.fz (pD h w)),some (.fz (.str R.word)),some (.fz (.str (wy ls))),some (.ow (plD a R h w ls)),fo s7,fw s8,fo s9]∨Γ=[some (.fz (.scr ns)),some (.fz (.int (0 + k))),some (.ow d),some (.fz (pD h w)),some (.fz (.str R.word)),some (.fz (.str (wy ls))),some (.fz (plD a R h w ls)),fo s7,fw s8,fo s9])) ⟨s7,_,s9,d3,b3.up (by decide),.inl rfl⟩ ?_ ?_
  ·rintro j dj Γ hj ⟨s7,s8,s9,d,b,e⟩
   obtain⟨lj,rfl⟩:=fP hj
   have lp:((pts h w ls).map Pt.D).length≤100000:=by rw[List.length_map];have:=mR (h:=h) (w:=w) hls;omega
   have lo:(ord h w ls).length≤100000:=Nat.le_trans (pT g sz (lH g sz)) (by have:=mR (h:=h) (w:=w) hls;omega)
   rcases e with rfl | rfl
   ·walk_at "xb"
    refine⟨R,h,w,ls,rfl,sz,g,hls,?_⟩
    walk_at "xb"
    refine⟨R,h,w,ls,rfl,sz,g,hls,?_⟩
    walk_at "xb"
    rw[K_]
    refine⟨.half,3,5,[.r,.b],rfl,vy,wI,by decide,?_⟩
    walk_at "xb"
    refine⟨z2,.half,3,5,[.r,.b],rfl,vy,wI,by decide,?_⟩
    walk_at "xb"
    refine⟨by decide +kernel,R,h,w,ls,rfl,hls,?_⟩
    walk_at "xb"
    refine⟨by decide +kernel,R,h,w,ls,rfl,sz,g,hls,?_⟩
    walk_at "xb"
    refine⟨z2,pP g sz hls,by decide +kernel,R,h,w,ls,rfl,hls,?_⟩
    walk_at "xb"
    refine⟨_,_,_,rfl,b,by omega,lp,fun d4 e4 b4=>?_⟩
    walk_at "xb"
    refine⟨by decide +kernel,R,h,w,ls,rfl,sz,g,hls,?_⟩
    walk_at "xb"
    refine⟨_,_,_,rfl,b4,by omega,lo,fun d5 e5 b5=>?_⟩
    walk_at "xb"
    refine⟨by decide +kernel,R,h,w,ls,rfl,hls,?_⟩
    walk_at "xb"
    refine⟨by decide +kernel,R,h,w,ls,rfl,sz,g,hls,?_⟩
    walk_at "xb"
    exact⟨z2,pP g sz hls,pP g sz hls,some _,some _,some _,d5,b5.up (by omega),.inr rfl⟩
   ·walk_at "xb"
    refine⟨R,h,w,ls,rfl,sz,g,hls,?_⟩
    walk_at "xb"
    refine⟨R,h,w,ls,rfl,sz,g,hls,?_⟩
    walk_at "xb"
    rw[K_]
    refine⟨.half,3,5,[.r,.b],rfl,vy,wI,by decide,?_⟩
    walk_at "xb"
    refine⟨z2,.half,3,5,[.r,.b],rfl,vy,wI,by decide,?_⟩
    walk_at "xb"
    refine⟨by decide +kernel,R,h,w,ls,rfl,hls,?_⟩
    walk_at "xb"
    refine⟨by decide +kernel,R,h,w,ls,rfl,sz,g,hls,?_⟩
    walk_at "xb"
    refine⟨z2,pP g sz hls,by decide +kernel,R,h,w,ls,rfl,hls,?_⟩
    walk_at "xb"
    refine⟨_,_,_,rfl,b,by omega,lp,fun d4 e4 b4=>?_⟩
    walk_at "xb"
    refine⟨by decide +kernel,R,h,w,ls,rfl,sz,g,hls,?_⟩
    walk_at "xb"
    refine⟨_,_,_,rfl,b4,by omega,lo,fun d5 e5 b5=>?_⟩
    walk_at "xb"
    refine⟨by decide +kernel,R,h,w,ls,rfl,hls,?_⟩
    walk_at "xb"
    refine⟨by decide +kernel,R,h,w,ls,rfl,sz,g,hls,?_⟩
    walk_at "xb"
    exact⟨z2,pP g sz hls,pP g sz hls,some _,some _,some _,d5,b5.up (by omega),.inr rfl⟩
  ·rintro Γ ⟨s7,s8,s9,d,b,e⟩
   rcases e with rfl | rfl
   ·walk_at "xb"
    refine⟨R,h,w,ls,rfl,sz,g,hls,?_⟩
    walk_at "xb"
    exact⟨some _,some _,some _,some _,some _,some _,s7,_,s9,rfl⟩
   ·walk_at "xb"
    refine⟨R,h,w,ls,rfl,sz,g,hls,?_⟩
    walk_at "xb"
    exact⟨some _,some _,some _,some _,some _,some _,s7,_,s9,rfl⟩
 ·rintro Γ ⟨s1,s2,s3,s4,s5,s6,s7,s8,s9,rfl⟩
  walk_at "xb"
  exact q _
def vv (K:PySem.W.Frag):Sp:=fun vs H Q _=>∃ (p:Addr) (ns:List Int),vs=[.ref p]∧SqL K H p (ns.map V.int)∧ns.length≤63∧∀ H',Q (.bl true) H'
theorem IG (T:Txt K mg a):aT P w K mg base CX0 7 a.AW a.wN ["_law_script"] (vv K):=IS (F7 T)
end
theorem all_mk {l:PySem.W.OpenLaw} {w:World} {K:PySem.W.Frag} {h:Heap} {mg:Str→Option Value} {fa:Addr} (X:K.In h) (G:h.Ns mainGlobals mg) (hfa:mg "law"=some (.ref fa))
  {aC:Addr}
  {aH:Addr}
  {aB:Addr}
  {aW:Addr}
  {bj:Addr}
  {bM:Addr} {od_ALONG_PILLARS:Option Addr} {nn_ALONG_PILLARS:Nat} {sl_ALONG_PILLARS:Array (Option Value)} {tk_ALONG_PILLARS_0:Tok} {tk_ALONG_PILLARS_1:Tok}
  {cN:Addr} {od_ALONG_ROWS:Option Addr} {nn_ALONG_ROWS:Nat} {sl_ALONG_ROWS:Array (Option Value)} {tk_ALONG_ROWS_0:Tok} {tk_ALONG_ROWS_1:Tok}
  {f0:Addr} {od0 an0:Option Addr} {sl0:Array (Option Value)} {oc0 kV0 dc0 pm0 cd0 ct0:Value}
  {f1:Addr} {od1 an1:Option Addr} {sl1:Array (Option Value)} {oc1 kV1 dc1 pm1 cd1 ct1:Value}
  {f2:Addr} {od2 an2:Option Addr} {sl2:Array (Option Value)} {oc2 kV2 dc2 pm2 cd2 ct2:Value}
  {f3:Addr} {od3 an3:Option Addr} {sl3:Array (Option Value)} {oc3 kV3 dc3 pm3 cd3 ct3:Value}
  {f4:Addr} {od4 an4:Option Addr} {sl4:Array (Option Value)} {oc4 kV4 dc4 pm4 cd4 ct4:Value}
  {f5:Addr} {od5 an5:Option Addr} {sl5:Array (Option Value)} {oc5 kV5 dc5 pm5 cd5 ct5:Value}
  {f6:Addr} {od6 an6:Option Addr} {sl6:Array (Option Value)} {oc6 kV6 dc6 pm6 cd6 ct6:Value}
  {f7:Addr} {od7 an7:Option Addr} {sl7:Array (Option Value)} {oc7 kV7 dc7 pm7 cd7 ct7:Value}
  {f8:Addr} {od8 an8:Option Addr} {sl8:Array (Option Value)} {oc8 kV8 dc8 pm8 cd8 ct8:Value}
  {f9:Addr} {od9 an9:Option Addr} {sl9:Array (Option Value)} {oc9 kV9 dc9 pm9 cd9 ct9:Value}
  {f10:Addr} {od10 an10:Option Addr} {sl10:Array (Option Value)} {oc10 kV10 dc10 pm10 cd10 ct10:Value}
  {f11:Addr} {od11 an11:Option Addr} {sl11:Array (Option Value)} {oc11 kV11 dc11 pm11 cd11 ct11:Value}
  {f12:Addr} {od12 an12:Option Addr} {sl12:Array (Option Value)} {oc12 kV12 dc12 pm12 cd12 ct12:Value}
  {f13:Addr} {od13 an13:Option Addr} {sl13:Array (Option Value)} {oc13 kV13 dc13 pm13 cd13 ct13:Value}
  {f14:Addr} {od14 an14:Option Addr} {sl14:Array (Option Value)} {oc14 kV14 dc14 pm14 cd14 ct14:Value}
  {f15:Addr} {od15 an15:Option Addr} {sl15:Array (Option Value)} {oc15 kV15 dc15 pm15 cd15 ct15:Value}
  {f16:Addr} {od16 an16:Option Addr} {sl16:Array (Option Value)} {oc16 kV16 dc16 pm16 cd16 ct16:Value}
  {f17:Addr} {od17 an17:Option Addr} {sl17:Array (Option Value)} {oc17 kV17 dc17 pm17 cd17 ct17:Value}
  {f18:Addr} {od18 an18:Option Addr} {sl18:Array (Option Value)} {oc18 kV18 dc18 pm18 cd18 ct18:Value}
  {f19:Addr} {od19 an19:Option Addr} {sl19:Array (Option Value)} {oc19 kV19 dc19 pm19 cd19 ct19:Value}
  {f20:Addr} {od20 an20:Option Addr} {sl20:Array (Option Value)} {oc20 kV20 dc20 pm20 cd20 ct20:Value}
  {f21:Addr} {od21 an21:Option Addr} {sl21:Array (Option Value)} {oc21 kV21 dc21 pm21 cd21 ct21:Value}
  {f22:Addr} {od22 an22:Option Addr} {sl22:Array (Option Value)} {oc22 kV22 dc22 pm22 cd22 ct22:Value}
  {f23:Addr} {od23 an23:Option Addr} {sl23:Array (Option Value)} {oc23 kV23 dc23 pm23 cd23 ct23:Value}
  {f24:Addr} {od24 an24:Option Addr} {sl24:Array (Option Value)} {oc24 kV24 dc24 pm24 cd24 ct24:Value}
  {f25:Addr} {od25 an25:Option Addr} {sl25:Array (Option Value)} {oc25 kV25 dc25 pm25 cd25 ct25:Value}
  {f26:Addr} {od26 an26:Option Addr} {sl26:Array (Option Value)} {oc26 kV26 dc26 pm26 cd26 ct26:Value}
  {f27:Addr} {od27 an27:Option Addr} {sl27:Array (Option Value)} {oc27 kV27 dc27 pm27 cd27 ct27:Value}
  {f28:Addr} {od28 an28:Option Addr} {sl28:Array (Option Value)} {oc28 kV28 dc28 pm28 cd28 ct28:Value}
  {f29:Addr} {od29 an29:Option Addr} {sl29:Array (Option Value)} {oc29 kV29 dc29 pm29 cd29 ct29:Value}
  {f30:Addr} {od30 an30:Option Addr} {sl30:Array (Option Value)} {oc30 kV30 dc30 pm30 cd30 ct30:Value}
  {f31:Addr} {od31 an31:Option Addr} {sl31:Array (Option Value)} {oc31 kV31 dc31 pm31 cd31 ct31:Value}
  {f32:Addr} {od32 an32:Option Addr} {sl32:Array (Option Value)} {oc32 kV32 dc32 pm32 cd32 ct32:Value}
  {f33:Addr} {od33 an33:Option Addr} {sl33:Array (Option Value)} {oc33 kV33 dc33 pm33 cd33 ct33:Value}
  {f34:Addr} {od34 an34:Option Addr} {sl34:Array (Option Value)} {oc34 kV34 dc34 pm34 cd34 ct34:Value}
  {f35:Addr} {od35 an35:Option Addr} {sl35:Array (Option Value)} {oc35 kV35 dc35 pm35 cd35 ct35:Value}
  {f36:Addr} {od36 an36:Option Addr} {sl36:Array (Option Value)} {oc36 kV36 dc36 pm36 cd36 ct36:Value}
  {f37:Addr} {od37 an37:Option Addr} {sl37:Array (Option Value)} {oc37 kV37 dc37 pm37 cd37 ct37:Value}
  {f38:Addr} {od38 an38:Option Addr} {sl38:Array (Option Value)} {oc38 kV38 dc38 pm38 cd38 ct38:Value}
  {f39:Addr} {od39 an39:Option Addr} {sl39:Array (Option Value)} {oc39 kV39 dc39 pm39 cd39 ct39:Value}
  {f40:Addr} {od40 an40:Option Addr} {sl40:Array (Option Value)} {oc40 kV40 dc40 pm40 cd40 ct40:Value}
  {f41:Addr} {od41 an41:Option Addr} {sl41:Array (Option Value)} {oc41 kV41 dc41 pm41 cd41 ct41:Value}
  {f42:Addr} {od42 an42:Option Addr} {sl42:Array (Option Value)} {oc42 kV42 dc42 pm42 cd42 ct42:Value}
  {f43:Addr} {od43 an43:Option Addr} {sl43:Array (Option Value)} {oc43 kV43 dc43 pm43 cd43 ct43:Value}
  {f44:Addr} {od44 an44:Option Addr} {sl44:Array (Option Value)} {oc44 kV44 dc44 pm44 cd44 ct44:Value}
  {f45:Addr} {od45 an45:Option Addr} {sl45:Array (Option Value)} {oc45 kV45 dc45 pm45 cd45 ct45:Value}
  {f46:Addr} {od46 an46:Option Addr} {sl46:Array (Option Value)} {oc46 kV46 dc46 pm46 cd46 ct46:Value}
  {f47:Addr} {od47 an47:Option Addr} {sl47:Array (Option Value)} {oc47 kV47 dc47 pm47 cd47 ct47:Value}
  {f48:Addr} {od48 an48:Option Addr} {sl48:Array (Option Value)} {oc48 kV48 dc48 pm48 cd48 ct48:Value}
  {f49:Addr} {od49 an49:Option Addr} {sl49:Array (Option Value)} {oc49 kV49 dc49 pm49 cd49 ct49:Value}
  {f50:Addr} {od50 an50:Option Addr} {sl50:Array (Option Value)} {oc50 kV50 dc50 pm50 cd50 ct50:Value}
  {f51:Addr} {od51 an51:Option Addr} {sl51:Array (Option Value)} {oc51 kV51 dc51 pm51 cd51 ct51:Value}
  {f52:Addr} {od52 an52:Option Addr} {sl52:Array (Option Value)} {oc52 kV52 dc52 pm52 cd52 ct52:Value}
  {f53:Addr} {od53 an53:Option Addr} {sl53:Array (Option Value)} {oc53 kV53 dc53 pm53 cd53 ct53:Value}
  {f54:Addr} {od54 an54:Option Addr} {sl54:Array (Option Value)} {oc54 kV54 dc54 pm54 cd54 ct54:Value}
  {f55:Addr} {od55 an55:Option Addr} {sl55:Array (Option Value)} {oc55 kV55 dc55 pm55 cd55 ct55:Value}
  {f56:Addr} {od56 an56:Option Addr} {sl56:Array (Option Value)} {oc56 kV56 dc56 pm56 cd56 ct56:Value}
  {f57:Addr} {od57 an57:Option Addr} {sl57:Array (Option Value)} {oc57 kV57 dc57 pm57 cd57 ct57:Value}
  {f58:Addr} {od58 an58:Option Addr} {sl58:Array (Option Value)} {oc58 kV58 dc58 pm58 cd58 ct58:Value}
  {f59:Addr} {od59 an59:Option Addr} {sl59:Array (Option Value)} {oc59 kV59 dc59 pm59 cd59 ct59:Value}
  {f60:Addr} {od60 an60:Option Addr} {sl60:Array (Option Value)} {oc60 kV60 dc60 pm60 cd60 ct60:Value}
  {f61:Addr} {od61 an61:Option Addr} {sl61:Array (Option Value)} {oc61 kV61 dc61 pm61 cd61 ct61:Value}
  {f62:Addr} {od62 an62:Option Addr} {sl62:Array (Option Value)} {oc62 kV62 dc62 pm62 cd62 ct62:Value}
  {f63:Addr} {od63 an63:Option Addr} {sl63:Array (Option Value)} {oc63 kV63 dc63 pm63 cd63 ct63:Value}
  {f64:Addr} {od64 an64:Option Addr} {sl64:Array (Option Value)} {oc64 kV64 dc64 pm64 cd64 ct64:Value}
  {t_MOST_NUMBER:Tok}
  {t_MOST_PLACES:Tok}
  {t_MOST_SIDE:Tok}
  (aC_Guessed:PySem.W.nsIn K mainGlobals "Guessed"=some (some (.ref aC)))
  (pg_Guessed:PySem.W.plainGet K aC Str.empty=true)
  (hd_Guessed:PySem.W.hasDictIn K aC=true)
  (po_Guessed:PySem.W.plainOver K aC=true)
  (sa_Guessed:PySem.W.findIn K (.ref aC) "__setattr__"=some (some (.builtin "object.__setattr__")))
  (mk_Guessed:PySem.W.makesIn K aC=true)
  (kc_Guessed:PySem.W.keepIn K (.ref aC)=true)
  (in_Guessed:PySem.W.findIn K (.ref aC) "__init__"=some (some (.builtin "object.__init__")))
  (aC_Halves:PySem.W.nsIn K mainGlobals "Halves"=some (some (.ref aH)))
  (pg_Halves:PySem.W.plainGet K aH Str.empty=true)
  (hd_Halves:PySem.W.hasDictIn K aH=true)
  (po_Halves:PySem.W.plainOver K aH=true)
  (sa_Halves:PySem.W.findIn K (.ref aH) "__setattr__"=some (some (.builtin "object.__setattr__")))
  (mk_Halves:PySem.W.makesIn K aH=true)
  (kc_Halves:PySem.W.keepIn K (.ref aH)=true)
  (in_Halves:PySem.W.findIn K (.ref aH) "__init__"=some (some (.builtin "object.__init__")))
  (aC_Leaning:PySem.W.nsIn K mainGlobals "Leaning"=some (some (.ref aB)))
  (pg_Leaning:PySem.W.plainGet K aB Str.empty=true)
  (hd_Leaning:PySem.W.hasDictIn K aB=true)
  (po_Leaning:PySem.W.plainOver K aB=true)
  (sa_Leaning:PySem.W.findIn K (.ref aB) "__setattr__"=some (some (.builtin "object.__setattr__")))
  (mk_Leaning:PySem.W.makesIn K aB=true)
  (kc_Leaning:PySem.W.keepIn K (.ref aB)=true)
  (in_Leaning:PySem.W.findIn K (.ref aB) "__init__"=some (some (.builtin "object.__init__")))
  (aC_Plan:PySem.W.nsIn K mainGlobals "Plan"=some (some (.ref aW)))
  (pg_Plan:PySem.W.plainGet K aW Str.empty=true)
  (hd_Plan:PySem.W.hasDictIn K aW=true)
  (po_Plan:PySem.W.plainOver K aW=true)
  (sa_Plan:PySem.W.findIn K (.ref aW) "__setattr__"=some (some (.builtin "object.__setattr__")))
  (mk_Plan:PySem.W.makesIn K aW=true)
  (kc_Plan:PySem.W.keepIn K (.ref aW)=true)
  (aC_Sums:PySem.W.nsIn K mainGlobals "Sums"=some (some (.ref bj)))
  (pg_Sums:PySem.W.plainGet K bj Str.empty=true)
  (hd_Sums:PySem.W.hasDictIn K bj=true)
  (po_Sums:PySem.W.plainOver K bj=true)
  (sa_Sums:PySem.W.findIn K (.ref bj) "__setattr__"=some (some (.builtin "object.__setattr__")))
  (mk_Sums:PySem.W.makesIn K bj=true)
  (kc_Sums:PySem.W.keepIn K (.ref bj)=true)
  (in_Sums:PySem.W.findIn K (.ref bj) "__init__"=some (some (.builtin "object.__init__")))
  (n_Plan_chosen:PySem.W.findIn K (.ref aW) "chosen"=some none)
  (n_Plan_corners:PySem.W.findIn K (.ref aW) "corners"=some none)
  (n_Plan_letters:PySem.W.findIn K (.ref aW) "letters"=some none)
  (q_ALONG_PILLARS:PySem.W.nsIn K mainGlobals "ALONG_PILLARS"=some (some (.ref bM)))
  (lk_ALONG_PILLARS:K.lookup bM=some ⟨.type "tuple",od_ALONG_PILLARS,.seq #[.str (Str.ofString "p") tk_ALONG_PILLARS_0,.str (Str.ofString "b") tk_ALONG_PILLARS_1] nn_ALONG_PILLARS,sl_ALONG_PILLARS⟩)
  (q_ALONG_ROWS:PySem.W.nsIn K mainGlobals "ALONG_ROWS"=some (some (.ref cN)))
  (lk_ALONG_ROWS:K.lookup cN=some ⟨.type "tuple",od_ALONG_ROWS,.seq #[.str (Str.ofString "r") tk_ALONG_ROWS_0,.str (Str.ofString "b") tk_ALONG_ROWS_1] nn_ALONG_ROWS,sl_ALONG_ROWS⟩)
  (y_bs:PySem.W.kitOne K (.type "bool") (.type "str")=some false)
  (y_is:PySem.W.kitOne K (.type "int") (.type "str")=some false)
  (y_ns:PySem.W.kitOne K (.type "NoneType") (.type "str")=some false)
  (y_ss:PySem.W.kitOne K (.type "str") (.type "str")=some true)
  (y_ls:PySem.W.kitOne K (.type "list") (.type "str")=some false)
  (y_ts:PySem.W.kitOne K (.type "tuple") (.type "str")=some false)
  (y_ds:PySem.W.kitOne K (.type "dict") (.type "str")=some false)
  (a0:PySem.W.nsIn K mainGlobals "is_whole"=some (some (.ref f0)))
  (l0:K.lookup f0=some ⟨oc0,od0,.func (PySem.W.fnOf "is_whole" "is_whole" (ai dq) (ah dq) (ab dq) .none kV0 dc0 pm0 an0 cd0 ct0),sl0⟩)
  (c0:PySem.W.codeIn K cd0 "is_whole"=true)
  (k0:PySem.W.keepIn K (.ref f0)=true)
  (a1:PySem.W.nsIn K mainGlobals "is_number"=some (some (.ref f1)))
  (l1:K.lookup f1=some ⟨oc1,od1,.func (PySem.W.fnOf "is_number" "is_number" (ai cQ) (ah cQ) (ab cQ) .none kV1 dc1 pm1 an1 cd1 ct1),sl1⟩)
  (c1:PySem.W.codeIn K cd1 "is_number"=true)
  (k1:PySem.W.keepIn K (.ref f1)=true)
  (a2:PySem.W.nsIn K mainGlobals "is_row"=some (some (.ref f2)))
  (l2:K.lookup f2=some ⟨oc2,od2,.func (PySem.W.fnOf "is_row" "is_row" (ai ek) (ah ek) (ab ek) .none kV2 dc2 pm2 an2 cd2 ct2),sl2⟩)
  (c2:PySem.W.codeIn K cd2 "is_row"=true)
  (k2:PySem.W.keepIn K (.ref f2)=true)
  (a3:PySem.W.nsIn K mainGlobals "are_halves"=some (some (.ref f3)))
  (l3:K.lookup f3=some ⟨oc3,od3,.func (PySem.W.fnOf "are_halves" "are_halves" (ai cu) (ah cu) (ab cu) .none kV3 dc3 pm3 an3 cd3 ct3),sl3⟩)
  (c3:PySem.W.codeIn K cd3 "are_halves"=true)
  (k3:PySem.W.keepIn K (.ref f3)=true)
  (a4:PySem.W.nsIn K mainGlobals "is_size"=some (some (.ref f4)))
  (l4:K.lookup f4=some ⟨oc4,od4,.func (PySem.W.fnOf "is_size" "is_size" (ai dY) (ah dY) (ab dY) .none kV4 dc4 pm4 an4 cd4 ct4),sl4⟩)
  (c4:PySem.W.codeIn K cd4 "is_size"=true)
  (k4:PySem.W.keepIn K (.ref f4)=true)
  (a5:PySem.W.nsIn K mainGlobals "is_place_within"=some (some (.ref f5)))
  (l5:K.lookup f5=some ⟨oc5,od5,.func (PySem.W.fnOf "is_place_within" "is_place_within" (ai bg) (ah bg) (ab bg) .none kV5 dc5 pm5 an5 cd5 ct5),sl5⟩)
  (c5:PySem.W.codeIn K cd5 "is_place_within"=true)
  (k5:PySem.W.keepIn K (.ref f5)=true)
  (a6:PySem.W.nsIn K mainGlobals "pairs_of"=some (some (.ref f6)))
  (l6:K.lookup f6=some ⟨oc6,od6,.func (PySem.W.fnOf "pairs_of" "pairs_of" (ai dn) (ah dn) (ab dn) .none kV6 dc6 pm6 an6 cd6 ct6),sl6⟩)
  (c6:PySem.W.codeIn K cd6 "pairs_of"=true)
  (k6:PySem.W.keepIn K (.ref f6)=true)
  (a7:PySem.W.nsIn K mainGlobals "gaps_of"=some (some (.ref f7)))
  (l7:K.lookup f7=some ⟨oc7,od7,.func (PySem.W.fnOf "gaps_of" "gaps_of" (ai dE) (ah dE) (ab dE) .none kV7 dc7 pm7 an7 cd7 ct7),sl7⟩)
  (c7:PySem.W.codeIn K cd7 "gaps_of"=true)
  (k7:PySem.W.keepIn K (.ref f7)=true)
  (a8:PySem.W.findIn K (.ref bj) "word"=some (some (.ref f8)))
  (i8:PySem.W.isFn K (.ref f8)=true)
  (l8:K.lookup f8=some ⟨oc8,od8,.func (PySem.W.fnOf "word" "Sums.word" (ai cX) (ah cX) (ab cX) .none kV8 dc8 pm8 an8 cd8 ct8),sl8⟩)
  (c8:PySem.W.codeIn K cd8 "Sums.word"=true)
  (k8:PySem.W.keepIn K (.ref f8)=true)
  (a9:PySem.W.findIn K (.ref aC) "halves"=some (some (.ref f9)))
  (i9:PySem.W.isFn K (.ref f9)=true)
  (l9:K.lookup f9=some ⟨oc9,od9,.func (PySem.W.fnOf "halves" "Sums.halves" (ai bY) (ah bY) (ab bY) .none kV9 dc9 pm9 an9 cd9 ct9),sl9⟩)
  (c9:PySem.W.codeIn K cd9 "Sums.halves"=true)
  (k9:PySem.W.keepIn K (.ref f9)=true)
  (a10:PySem.W.findIn K (.ref aC) "back"=some (some (.ref f10)))
  (i10:PySem.W.isFn K (.ref f10)=true)
  (l10:K.lookup f10=some ⟨oc10,od10,.func (PySem.W.fnOf "back" "Sums.back" (ai cY) (ah cY) (ab cY) .none kV10 dc10 pm10 an10 cd10 ct10),sl10⟩)
  (c10:PySem.W.codeIn K cd10 "Sums.back"=true)
  (k10:PySem.W.keepIn K (.ref f10)=true)
  (a11:PySem.W.findIn K (.ref aH) "parted"=some (some (.ref f11)))
  (i11:PySem.W.isFn K (.ref f11)=true)
  (l11:K.lookup f11=some ⟨oc11,od11,.func (PySem.W.fnOf "parted" "Sums.parted" (ai bW) (ah bW) (ab bW) .none kV11 dc11 pm11 an11 cd11 ct11),sl11⟩)
  (c11:PySem.W.codeIn K cd11 "Sums.parted"=true)
  (k11:PySem.W.keepIn K (.ref f11)=true)
  (a12:PySem.W.findIn K (.ref aH) "joined"=some (some (.ref f12)))
  (i12:PySem.W.isFn K (.ref f12)=true)
  (l12:K.lookup f12=some ⟨oc12,od12,.func (PySem.W.fnOf "joined" "Sums.joined" (ai bX) (ah bX) (ab bX) .none kV12 dc12 pm12 an12 cd12 ct12),sl12⟩)
  (c12:PySem.W.codeIn K cd12 "Sums.joined"=true)
  (k12:PySem.W.keepIn K (.ref f12)=true)
  (a13:PySem.W.findIn K (.ref aC) "sums_of"=some (some (.ref f13)))
  (i13:PySem.W.isFn K (.ref f13)=true)
  (l13:K.lookup f13=some ⟨oc13,od13,.func (PySem.W.fnOf "sums_of" "Sums.sums_of" (ai bB) (ah bB) (ab bB) .none kV13 dc13 pm13 an13 cd13 ct13),sl13⟩)
  (c13:PySem.W.codeIn K cd13 "Sums.sums_of"=true)
  (k13:PySem.W.keepIn K (.ref f13)=true)
  (a14:PySem.W.findIn K (.ref aC) "row_of"=some (some (.ref f14)))
  (i14:PySem.W.isFn K (.ref f14)=true)
  (l14:K.lookup f14=some ⟨oc14,od14,.func (PySem.W.fnOf "row_of" "Sums.row_of" (ai bV) (ah bV) (ab bV) .none kV14 dc14 pm14 an14 cd14 ct14),sl14⟩)
  (c14:PySem.W.codeIn K cd14 "Sums.row_of"=true)
  (k14:PySem.W.keepIn K (.ref f14)=true)
  (a15:PySem.W.findIn K (.ref aC) "sum_of_pair"=some (some (.ref f15)))
  (i15:PySem.W.isFn K (.ref f15)=true)
  (l15:K.lookup f15=some ⟨oc15,od15,.func (PySem.W.fnOf "sum_of_pair" "Sums.sum_of_pair" (ai aX) (ah aX) (ab aX) .none kV15 dc15 pm15 an15 cd15 ct15),sl15⟩)
  (c15:PySem.W.codeIn K cd15 "Sums.sum_of_pair"=true)
  (k15:PySem.W.keepIn K (.ref f15)=true)
  (a16:PySem.W.findIn K (.ref aC) "sum_of_lone"=some (some (.ref f16)))
  (i16:PySem.W.isFn K (.ref f16)=true)
  (l16:K.lookup f16=some ⟨oc16,od16,.func (PySem.W.fnOf "sum_of_lone" "Sums.sum_of_lone" (ai aY) (ah aY) (ab aY) .none kV16 dc16 pm16 an16 cd16 ct16),sl16⟩)
  (c16:PySem.W.codeIn K cd16 "Sums.sum_of_lone"=true)
  (k16:PySem.W.keepIn K (.ref f16)=true)
  (a17:PySem.W.findIn K (.ref aC) "pair_of"=some (some (.ref f17)))
  (i17:PySem.W.isFn K (.ref f17)=true)
  (l17:K.lookup f17=some ⟨oc17,od17,.func (PySem.W.fnOf "pair_of" "Sums.pair_of" (ai bH) (ah bH) (ab bH) .none kV17 dc17 pm17 an17 cd17 ct17),sl17⟩)
  (c17:PySem.W.codeIn K cd17 "Sums.pair_of"=true)
  (k17:PySem.W.keepIn K (.ref f17)=true)
  (a18:PySem.W.findIn K (.ref aC) "lone_of"=some (some (.ref f18)))
  (i18:PySem.W.isFn K (.ref f18)=true)
  (l18:K.lookup f18=some ⟨oc18,od18,.func (PySem.W.fnOf "lone_of" "Sums.lone_of" (ai bI) (ah bI) (ab bI) .none kV18 dc18 pm18 an18 cd18 ct18),sl18⟩)
  (c18:PySem.W.codeIn K cd18 "Sums.lone_of"=true)
  (k18:PySem.W.keepIn K (.ref f18)=true)
  (a19:PySem.W.findIn K (.ref aH) "word"=some (some (.ref f19)))
  (i19:PySem.W.isFn K (.ref f19)=true)
  (l19:K.lookup f19=some ⟨oc19,od19,.func (PySem.W.fnOf "word" "Halves.word" (ai b7) (ah b7) (ab b7) .none kV19 dc19 pm19 an19 cd19 ct19),sl19⟩)
  (c19:PySem.W.codeIn K cd19 "Halves.word"=true)
  (k19:PySem.W.keepIn K (.ref f19)=true)
  (a20:PySem.W.findIn K (.ref aH) "sum_of_pair"=some (some (.ref f20)))
  (i20:PySem.W.isFn K (.ref f20)=true)
  (l20:K.lookup f20=some ⟨oc20,od20,.func (PySem.W.fnOf "sum_of_pair" "Halves.sum_of_pair" (ai aP) (ah aP) (ab aP) .none kV20 dc20 pm20 an20 cd20 ct20),sl20⟩)
  (c20:PySem.W.codeIn K cd20 "Halves.sum_of_pair"=true)
  (k20:PySem.W.keepIn K (.ref f20)=true)
  (a21:PySem.W.findIn K (.ref aH) "sum_of_lone"=some (some (.ref f21)))
  (i21:PySem.W.isFn K (.ref f21)=true)
  (l21:K.lookup f21=some ⟨oc21,od21,.func (PySem.W.fnOf "sum_of_lone" "Halves.sum_of_lone" (ai aQ) (ah aQ) (ab aQ) .none kV21 dc21 pm21 an21 cd21 ct21),sl21⟩)
  (c21:PySem.W.codeIn K cd21 "Halves.sum_of_lone"=true)
  (k21:PySem.W.keepIn K (.ref f21)=true)
  (a22:PySem.W.findIn K (.ref aH) "pair_of"=some (some (.ref f22)))
  (i22:PySem.W.isFn K (.ref f22)=true)
  (l22:K.lookup f22=some ⟨oc22,od22,.func (PySem.W.fnOf "pair_of" "Halves.pair_of" (ai bp) (ah bp) (ab bp) .none kV22 dc22 pm22 an22 cd22 ct22),sl22⟩)
  (c22:PySem.W.codeIn K cd22 "Halves.pair_of"=true)
  (k22:PySem.W.keepIn K (.ref f22)=true)
  (a23:PySem.W.findIn K (.ref aH) "lone_of"=some (some (.ref f23)))
  (i23:PySem.W.isFn K (.ref f23)=true)
  (l23:K.lookup f23=some ⟨oc23,od23,.func (PySem.W.fnOf "lone_of" "Halves.lone_of" (ai bq) (ah bq) (ab bq) .none kV23 dc23 pm23 an23 cd23 ct23),sl23⟩)
  (c23:PySem.W.codeIn K cd23 "Halves.lone_of"=true)
  (k23:PySem.W.keepIn K (.ref f23)=true)
  (a24:PySem.W.nsIn K mainGlobals "near"=some (some (.ref f24)))
  (l24:K.lookup f24=some ⟨oc24,od24,.func (PySem.W.fnOf "near" "near" (ai jr) (ah jr) (ab jr) .none kV24 dc24 pm24 an24 cd24 ct24),sl24⟩)
  (c24:PySem.W.codeIn K cd24 "near"=true)
  (k24:PySem.W.keepIn K (.ref f24)=true)
  (a25:PySem.W.nsIn K mainGlobals "woven"=some (some (.ref f25)))
  (l25:K.lookup f25=some ⟨oc25,od25,.func (PySem.W.fnOf "woven" "woven" (ai gK) (ah gK) (ab gK) .none kV25 dc25 pm25 an25 cd25 ct25),sl25⟩)
  (c25:PySem.W.codeIn K cd25 "woven"=true)
  (k25:PySem.W.keepIn K (.ref f25)=true)
  (a26:PySem.W.nsIn K mainGlobals "guesses"=some (some (.ref f26)))
  (l26:K.lookup f26=some ⟨oc26,od26,.func (PySem.W.fnOf "guesses" "guesses" (ai dD) (ah dD) (ab dD) .none kV26 dc26 pm26 an26 cd26 ct26),sl26⟩)
  (c26:PySem.W.codeIn K cd26 "guesses"=true)
  (k26:PySem.W.keepIn K (.ref f26)=true)
  (a27:PySem.W.nsIn K mainGlobals "lifts"=some (some (.ref f27)))
  (l27:K.lookup f27=some ⟨oc27,od27,.func (PySem.W.fnOf "lifts" "lifts" (ai fN) (ah fN) (ab fN) .none kV27 dc27 pm27 an27 cd27 ct27),sl27⟩)
  (c27:PySem.W.codeIn K cd27 "lifts"=true)
  (k27:PySem.W.keepIn K (.ref f27)=true)
  (a28:PySem.W.nsIn K mainGlobals "leans"=some (some (.ref f28)))
  (l28:K.lookup f28=some ⟨oc28,od28,.func (PySem.W.fnOf "leans" "leans" (ai fO) (ah fO) (ab fO) .none kV28 dc28 pm28 an28 cd28 ct28),sl28⟩)
  (c28:PySem.W.codeIn K cd28 "leans"=true)
  (k28:PySem.W.keepIn K (.ref f28)=true)
  (a29:PySem.W.findIn K (.ref aC) "word"=some (some (.ref f29)))
  (i29:PySem.W.isFn K (.ref f29)=true)
  (l29:K.lookup f29=some ⟨oc29,od29,.func (PySem.W.fnOf "word" "Guessed.word" (ai bK) (ah bK) (ab bK) .none kV29 dc29 pm29 an29 cd29 ct29),sl29⟩)
  (c29:PySem.W.codeIn K cd29 "Guessed.word"=true)
  (k29:PySem.W.keepIn K (.ref f29)=true)
  (a30:PySem.W.findIn K (.ref aC) "parted"=some (some (.ref f30)))
  (i30:PySem.W.isFn K (.ref f30)=true)
  (l30:K.lookup f30=some ⟨oc30,od30,.func (PySem.W.fnOf "parted" "Guessed.parted" (ai aU) (ah aU) (ab aU) .none kV30 dc30 pm30 an30 cd30 ct30),sl30⟩)
  (c30:PySem.W.codeIn K cd30 "Guessed.parted"=true)
  (k30:PySem.W.keepIn K (.ref f30)=true)
  (a31:PySem.W.findIn K (.ref aC) "joined"=some (some (.ref f31)))
  (i31:PySem.W.isFn K (.ref f31)=true)
  (l31:K.lookup f31=some ⟨oc31,od31,.func (PySem.W.fnOf "joined" "Guessed.joined" (ai aV) (ah aV) (ab aV) .none kV31 dc31 pm31 an31 cd31 ct31),sl31⟩)
  (c31:PySem.W.codeIn K cd31 "Guessed.joined"=true)
  (k31:PySem.W.keepIn K (.ref f31)=true)
  (a32:PySem.W.findIn K (.ref aB) "word"=some (some (.ref f32)))
  (i32:PySem.W.isFn K (.ref f32)=true)
  (l32:K.lookup f32=some ⟨oc32,od32,.func (PySem.W.fnOf "word" "Leaning.word" (ai bJ) (ah bJ) (ab bJ) .none kV32 dc32 pm32 an32 cd32 ct32),sl32⟩)
  (c32:PySem.W.codeIn K cd32 "Leaning.word"=true)
  (k32:PySem.W.keepIn K (.ref f32)=true)
  (a33:PySem.W.findIn K (.ref aB) "parted"=some (some (.ref f33)))
  (i33:PySem.W.isFn K (.ref f33)=true)
  (l33:K.lookup f33=some ⟨oc33,od33,.func (PySem.W.fnOf "parted" "Leaning.parted" (ai bc) (ah bc) (ab bc) .none kV33 dc33 pm33 an33 cd33 ct33),sl33⟩)
  (c33:PySem.W.codeIn K cd33 "Leaning.parted"=true)
  (k33:PySem.W.keepIn K (.ref f33)=true)
  (a34:PySem.W.findIn K (.ref aB) "joined"=some (some (.ref f34)))
  (i34:PySem.W.isFn K (.ref f34)=true)
  (l34:K.lookup f34=some ⟨oc34,od34,.func (PySem.W.fnOf "joined" "Leaning.joined" (ai bf) (ah bf) (ab bf) .none kV34 dc34 pm34 an34 cd34 ct34),sl34⟩)
  (c34:PySem.W.codeIn K cd34 "Leaning.joined"=true)
  (k34:PySem.W.keepIn K (.ref f34)=true)
  (a35:PySem.W.nsIn K mainGlobals "all_rules"=some (some (.ref f35)))
  (l35:K.lookup f35=some ⟨oc35,od35,.func (PySem.W.fnOf "all_rules" "all_rules" (ai cS) (ah cS) (ab cS) .none kV35 dc35 pm35 an35 cd35 ct35),sl35⟩)
  (c35:PySem.W.codeIn K cd35 "all_rules"=true)
  (k35:PySem.W.keepIn K (.ref f35)=true)
  (a36:PySem.W.nsIn K mainGlobals "rule_of"=some (some (.ref f36)))
  (l36:K.lookup f36=some ⟨oc36,od36,.func (PySem.W.fnOf "rule_of" "rule_of" (ai dX) (ah dX) (ab dX) .none kV36 dc36 pm36 an36 cd36 ct36),sl36⟩)
  (c36:PySem.W.codeIn K cd36 "rule_of"=true)
  (k36:PySem.W.keepIn K (.ref f36)=true)
  (a37:PySem.W.nsIn K mainGlobals "can_halve"=some (some (.ref f37)))
  (l37:K.lookup f37=some ⟨oc37,od37,.func (PySem.W.fnOf "can_halve" "can_halve" (ai cR) (ah cR) (ab cR) .none kV37 dc37 pm37 an37 cd37 ct37),sl37⟩)
  (c37:PySem.W.codeIn K cd37 "can_halve"=true)
  (k37:PySem.W.keepIn K (.ref f37)=true)
  (a38:PySem.W.nsIn K mainGlobals "corners_of"=some (some (.ref f38)))
  (l38:K.lookup f38=some ⟨oc38,od38,.func (PySem.W.fnOf "corners_of" "corners_of" (ai cq) (ah cq) (ab cq) .none kV38 dc38 pm38 an38 cd38 ct38),sl38⟩)
  (c38:PySem.W.codeIn K cd38 "corners_of"=true)
  (k38:PySem.W.keepIn K (.ref f38)=true)
  (a39:PySem.W.nsIn K mainGlobals "places_of"=some (some (.ref f39)))
  (l39:K.lookup f39=some ⟨oc39,od39,.func (PySem.W.fnOf "places_of" "places_of" (ai cF) (ah cF) (ab cF) .none kV39 dc39 pm39 an39 cd39 ct39),sl39⟩)
  (c39:PySem.W.codeIn K cd39 "places_of"=true)
  (k39:PySem.W.keepIn K (.ref f39)=true)
  (a40:PySem.W.findIn K (.ref aW) "__init__"=some (some (.ref f40)))
  (i40:PySem.W.isFn K (.ref f40)=true)
  (l40:K.lookup f40=some ⟨oc40,od40,.func (PySem.W.fnOf "__init__" "Plan.__init__" (ai bD) (ah bD) (ab bD) .none kV40 dc40 pm40 an40 cd40 ct40),sl40⟩)
  (c40:PySem.W.codeIn K cd40 "Plan.__init__"=true)
  (k40:PySem.W.keepIn K (.ref f40)=true)
  (a41:PySem.W.findIn K (.ref aW) "height"=some (some (.ref f41)))
  (i41:PySem.W.isFn K (.ref f41)=true)
  (l41:K.lookup f41=some ⟨oc41,od41,.func (PySem.W.fnOf "height" "Plan.height" (ai bZ) (ah bZ) (ab bZ) .none kV41 dc41 pm41 an41 cd41 ct41),sl41⟩)
  (c41:PySem.W.codeIn K cd41 "Plan.height"=true)
  (k41:PySem.W.keepIn K (.ref f41)=true)
  (a42:PySem.W.findIn K (.ref aW) "width"=some (some (.ref f42)))
  (i42:PySem.W.isFn K (.ref f42)=true)
  (l42:K.lookup f42=some ⟨oc42,od42,.func (PySem.W.fnOf "width" "Plan.width" (ai cz) (ah cz) (ab cz) .none kV42 dc42 pm42 an42 cd42 ct42),sl42⟩)
  (c42:PySem.W.codeIn K cd42 "Plan.width"=true)
  (k42:PySem.W.keepIn K (.ref f42)=true)
  (a43:PySem.W.findIn K (.ref aW) "rule"=some (some (.ref f43)))
  (i43:PySem.W.isFn K (.ref f43)=true)
  (l43:K.lookup f43=some ⟨oc43,od43,.func (PySem.W.fnOf "rule" "Plan.rule" (ai cZ) (ah cZ) (ab cZ) .none kV43 dc43 pm43 an43 cd43 ct43),sl43⟩)
  (c43:PySem.W.codeIn K cd43 "Plan.rule"=true)
  (k43:PySem.W.keepIn K (.ref f43)=true)
  (a44:PySem.W.findIn K (.ref aW) "way"=some (some (.ref f44)))
  (i44:PySem.W.isFn K (.ref f44)=true)
  (l44:K.lookup f44=some ⟨oc44,od44,.func (PySem.W.fnOf "way" "Plan.way" (ai dv) (ah dv) (ab dv) .none kV44 dc44 pm44 an44 cd44 ct44),sl44⟩)
  (c44:PySem.W.codeIn K cd44 "Plan.way"=true)
  (k44:PySem.W.keepIn K (.ref f44)=true)
  (a45:PySem.W.findIn K (.ref aW) "steps"=some (some (.ref f45)))
  (i45:PySem.W.isFn K (.ref f45)=true)
  (l45:K.lookup f45=some ⟨oc45,od45,.func (PySem.W.fnOf "steps" "Plan.steps" (ai cA) (ah cA) (ab cA) .none kV45 dc45 pm45 an45 cd45 ct45),sl45⟩)
  (c45:PySem.W.codeIn K cd45 "Plan.steps"=true)
  (k45:PySem.W.keepIn K (.ref f45)=true)
  (a46:PySem.W.findIn K (.ref aW) "corner"=some (some (.ref f46)))
  (i46:PySem.W.isFn K (.ref f46)=true)
  (l46:K.lookup f46=some ⟨oc46,od46,.func (PySem.W.fnOf "corner" "Plan.corner" (ai b6) (ah b6) (ab b6) .none kV46 dc46 pm46 an46 cd46 ct46),sl46⟩)
  (c46:PySem.W.codeIn K cd46 "Plan.corner"=true)
  (k46:PySem.W.keepIn K (.ref f46)=true)
  (a47:PySem.W.findIn K (.ref aW) "parts"=some (some (.ref f47)))
  (i47:PySem.W.isFn K (.ref f47)=true)
  (l47:K.lookup f47=some ⟨oc47,od47,.func (PySem.W.fnOf "parts" "Plan.parts" (ai cB) (ah cB) (ab cB) .none kV47 dc47 pm47 an47 cd47 ct47),sl47⟩)
  (c47:PySem.W.codeIn K cd47 "Plan.parts"=true)
  (k47:PySem.W.keepIn K (.ref f47)=true)
  (a48:PySem.W.findIn K (.ref aW) "parts_of_step"=some (some (.ref f48)))
  (i48:PySem.W.isFn K (.ref f48)=true)
  (l48:K.lookup f48=some ⟨oc48,od48,.func (PySem.W.fnOf "parts_of_step" "Plan.parts_of_step" (ai aO) (ah aO) (ab aO) .none kV48 dc48 pm48 an48 cd48 ct48),sl48⟩)
  (c48:PySem.W.codeIn K cd48 "Plan.parts_of_step"=true)
  (k48:PySem.W.keepIn K (.ref f48)=true)
  (a49:PySem.W.findIn K (.ref aW) "order"=some (some (.ref f49)))
  (i49:PySem.W.isFn K (.ref f49)=true)
  (l49:K.lookup f49=some ⟨oc49,od49,.func (PySem.W.fnOf "order" "Plan.order" (ai b9) (ah b9) (ab b9) .none kV49 dc49 pm49 an49 cd49 ct49),sl49⟩)
  (c49:PySem.W.codeIn K cd49 "Plan.order"=true)
  (k49:PySem.W.keepIn K (.ref f49)=true)
  (a50:PySem.W.findIn K (.ref aW) "halvings"=some (some (.ref f50)))
  (i50:PySem.W.isFn K (.ref f50)=true)
  (l50:K.lookup f50=some ⟨oc50,od50,.func (PySem.W.fnOf "halvings" "Plan.halvings" (ai bC) (ah bC) (ab bC) .none kV50 dc50 pm50 an50 cd50 ct50),sl50⟩)
  (c50:PySem.W.codeIn K cd50 "Plan.halvings"=true)
  (k50:PySem.W.keepIn K (.ref f50)=true)
  (a51:PySem.W.nsIn K mainGlobals "_law_cell"=some (some (.ref f51)))
  (l51:K.lookup f51=some ⟨oc51,od51,.func (PySem.W.fnOf "_law_cell" "_law_cell" (ai cW) (ah cW) (ab cW) .none kV51 dc51 pm51 an51 cd51 ct51),sl51⟩)
  (c51:PySem.W.codeIn K cd51 "_law_cell"=true)
  (k51:PySem.W.keepIn K (.ref f51)=true)
  (a52:PySem.W.nsIn K mainGlobals "_law_box"=some (some (.ref f52)))
  (l52:K.lookup f52=some ⟨oc52,od52,.func (PySem.W.fnOf "_law_box" "_law_box" (ai du) (ah du) (ab du) .none kV52 dc52 pm52 an52 cd52 ct52),sl52⟩)
  (c52:PySem.W.codeIn K cd52 "_law_box"=true)
  (k52:PySem.W.keepIn K (.ref f52)=true)
  (a53:PySem.W.nsIn K mainGlobals "_law_take"=some (some (.ref f53)))
  (l53:K.lookup f53=some ⟨oc53,od53,.func (PySem.W.fnOf "_law_take" "_law_take" (ai cT) (ah cT) (ab cT) .none kV53 dc53 pm53 an53 cd53 ct53),sl53⟩)
  (c53:PySem.W.codeIn K cd53 "_law_take"=true)
  (k53:PySem.W.keepIn K (.ref f53)=true)
  (a54:PySem.W.nsIn K mainGlobals "_law_size"=some (some (.ref f54)))
  (l54:K.lookup f54=some ⟨oc54,od54,.func (PySem.W.fnOf "_law_size" "_law_size" (ai cU) (ah cU) (ab cU) .none kV54 dc54 pm54 an54 cd54 ct54),sl54⟩)
  (c54:PySem.W.codeIn K cd54 "_law_size"=true)
  (k54:PySem.W.keepIn K (.ref f54)=true)
  (a55:PySem.W.nsIn K mainGlobals "_law_way"=some (some (.ref f55)))
  (l55:K.lookup f55=some ⟨oc55,od55,.func (PySem.W.fnOf "_law_way" "_law_way" (ai dr) (ah dr) (ab dr) .none kV55 dc55 pm55 an55 cd55 ct55),sl55⟩)
  (c55:PySem.W.codeIn K cd55 "_law_way"=true)
  (k55:PySem.W.keepIn K (.ref f55)=true)
  (a56:PySem.W.nsIn K mainGlobals "_law_corners"=some (some (.ref f56)))
  (l56:K.lookup f56=some ⟨oc56,od56,.func (PySem.W.fnOf "_law_corners" "_law_corners" (ai bF) (ah bF) (ab bF) .none kV56 dc56 pm56 an56 cd56 ct56),sl56⟩)
  (c56:PySem.W.codeIn K cd56 "_law_corners"=true)
  (k56:PySem.W.keepIn K (.ref f56)=true)
  (a57:PySem.W.nsIn K mainGlobals "_law_whole"=some (some (.ref f57)))
  (l57:K.lookup f57=some ⟨oc57,od57,.func (PySem.W.fnOf "_law_whole" "_law_whole" (ai cv) (ah cv) (ab cv) .none kV57 dc57 pm57 an57 cd57 ct57),sl57⟩)
  (c57:PySem.W.codeIn K cd57 "_law_whole"=true)
  (k57:PySem.W.keepIn K (.ref f57)=true)
  (a58:PySem.W.nsIn K mainGlobals "_law_parts"=some (some (.ref f58)))
  (l58:K.lookup f58=some ⟨oc58,od58,.func (PySem.W.fnOf "_law_parts" "_law_parts" (ai cx) (ah cx) (ab cx) .none kV58 dc58 pm58 an58 cd58 ct58),sl58⟩)
  (c58:PySem.W.codeIn K cd58 "_law_parts"=true)
  (k58:PySem.W.keepIn K (.ref f58)=true)
  (a59:PySem.W.nsIn K mainGlobals "_law_order"=some (some (.ref f59)))
  (l59:K.lookup f59=some ⟨oc59,od59,.func (PySem.W.fnOf "_law_order" "_law_order" (ai cy) (ah cy) (ab cy) .none kV59 dc59 pm59 an59 cd59 ct59),sl59⟩)
  (c59:PySem.W.codeIn K cd59 "_law_order"=true)
  (k59:PySem.W.keepIn K (.ref f59)=true)
  (a60:PySem.W.nsIn K mainGlobals "_law_many"=some (some (.ref f60)))
  (l60:K.lookup f60=some ⟨oc60,od60,.func (PySem.W.fnOf "_law_many" "_law_many" (ai cV) (ah cV) (ab cV) .none kV60 dc60 pm60 an60 cd60 ct60),sl60⟩)
  (c60:PySem.W.codeIn K cd60 "_law_many"=true)
  (k60:PySem.W.keepIn K (.ref f60)=true)
  (a61:PySem.W.nsIn K mainGlobals "_law_numbers_right"=some (some (.ref f61)))
  (l61:K.lookup f61=some ⟨oc61,od61,.func (PySem.W.fnOf "_law_numbers_right" "_law_numbers_right" (ai aK) (ah aK) (ab aK) .none kV61 dc61 pm61 an61 cd61 ct61),sl61⟩)
  (c61:PySem.W.codeIn K cd61 "_law_numbers_right"=true)
  (k61:PySem.W.keepIn K (.ref f61)=true)
  (a62:PySem.W.nsIn K mainGlobals "_law_places_right"=some (some (.ref f62)))
  (l62:K.lookup f62=some ⟨oc62,od62,.func (PySem.W.fnOf "_law_places_right" "_law_places_right" (ai aM) (ah aM) (ab aM) .none kV62 dc62 pm62 an62 cd62 ct62),sl62⟩)
  (c62:PySem.W.codeIn K cd62 "_law_places_right"=true)
  (k62:PySem.W.keepIn K (.ref f62)=true)
  (a63:PySem.W.nsIn K mainGlobals "_law_shaken"=some (some (.ref f63)))
  (l63:K.lookup f63=some ⟨oc63,od63,.func (PySem.W.fnOf "_law_shaken" "_law_shaken" (ai bU) (ah bU) (ab bU) .none kV63 dc63 pm63 an63 cd63 ct63),sl63⟩)
  (c63:PySem.W.codeIn K cd63 "_law_shaken"=true)
  (k63:PySem.W.keepIn K (.ref f63)=true)
  (a64:PySem.W.nsIn K mainGlobals "law"=some (some (.ref f64)))
  (l64:K.lookup f64=some ⟨oc64,od64,.func (PySem.W.fnOf "law" "law" (ai nv) (ah nv) (ab nv) .none kV64 dc64 pm64 an64 cd64 ct64),sl64⟩)
  (c64:PySem.W.codeIn K cd64 "law"=true)
  (k64:PySem.W.keepIn K (.ref f64)=true)
  (e_Halves_halves:PySem.W.findIn K (.ref aH) "halves"=some (some (.ref f9)))
  (e_Halves_back:PySem.W.findIn K (.ref aH) "back"=some (some (.ref f10)))
  (e_Halves_sums_of:PySem.W.findIn K (.ref aH) "sums_of"=some (some (.ref f13)))
  (e_Halves_row_of:PySem.W.findIn K (.ref aH) "row_of"=some (some (.ref f14)))
  (e_Leaning_sum_of_pair:PySem.W.findIn K (.ref aB) "sum_of_pair"=some (some (.ref f20)))
  (e_Leaning_sum_of_lone:PySem.W.findIn K (.ref aB) "sum_of_lone"=some (some (.ref f21)))
  (e_Leaning_pair_of:PySem.W.findIn K (.ref aB) "pair_of"=some (some (.ref f22)))
  (e_Leaning_lone_of:PySem.W.findIn K (.ref aB) "lone_of"=some (some (.ref f23)))
  (e_Leaning_halves:PySem.W.findIn K (.ref aB) "halves"=some (some (.ref f9)))
  (e_Leaning_back:PySem.W.findIn K (.ref aB) "back"=some (some (.ref f10)))
  (e_Leaning_sums_of:PySem.W.findIn K (.ref aB) "sums_of"=some (some (.ref f13)))
  (e_Leaning_row_of:PySem.W.findIn K (.ref aB) "row_of"=some (some (.ref f14)))
  (e_Sums_halves:PySem.W.findIn K (.ref bj) "halves"=some (some (.ref f9)))
  (e_Sums_back:PySem.W.findIn K (.ref bj) "back"=some (some (.ref f10)))
  (e_Sums_parted:PySem.W.findIn K (.ref bj) "parted"=some (some (.ref f11)))
  (e_Sums_joined:PySem.W.findIn K (.ref bj) "joined"=some (some (.ref f12)))
  (e_Sums_sums_of:PySem.W.findIn K (.ref bj) "sums_of"=some (some (.ref f13)))
  (e_Sums_row_of:PySem.W.findIn K (.ref bj) "row_of"=some (some (.ref f14)))
  (e_Sums_sum_of_pair:PySem.W.findIn K (.ref bj) "sum_of_pair"=some (some (.ref f15)))
  (e_Sums_sum_of_lone:PySem.W.findIn K (.ref bj) "sum_of_lone"=some (some (.ref f16)))
  (e_Sums_pair_of:PySem.W.findIn K (.ref bj) "pair_of"=some (some (.ref f17)))
  (e_Sums_lone_of:PySem.W.findIn K (.ref bj) "lone_of"=some (some (.ref f18)))
  (q_MOST_NUMBER:PySem.W.nsIn K mainGlobals "MOST_NUMBER"=some (some (.int 999999999999999 t_MOST_NUMBER)))
  (q_MOST_PLACES:PySem.W.nsIn K mainGlobals "MOST_PLACES"=some (some (.int 512 t_MOST_PLACES)))
  (q_MOST_SIDE:PySem.W.nsIn K mainGlobals "MOST_SIDE"=some (some (.int 64 t_MOST_SIDE)))
  (z_all:PySem.W.nsIn K mainGlobals "all"=some none)
  (z_bool:PySem.W.nsIn K mainGlobals "bool"=some none)
  (z_int:PySem.W.nsIn K mainGlobals "int"=some none)
  (z_isinstance:PySem.W.nsIn K mainGlobals "isinstance"=some none)
  (z_len:PySem.W.nsIn K mainGlobals "len"=some none)
  (z_list:PySem.W.nsIn K mainGlobals "list"=some none)
  (z_max:PySem.W.nsIn K mainGlobals "max"=some none)
  (z_min:PySem.W.nsIn K mainGlobals "min"=some none)
  (z_range:PySem.W.nsIn K mainGlobals "range"=some none)
  (z_repr:PySem.W.nsIn K mainGlobals "repr"=some none)
  (z_reversed:PySem.W.nsIn K mainGlobals "reversed"=some none)
  (z_str:PySem.W.nsIn K mainGlobals "str"=some none)
  (z_tuple:PySem.W.nsIn K mainGlobals "tuple"=some none)
  (z_zip:PySem.W.nsIn K mainGlobals "zip"=some none)
  (y_bb:PySem.W.kitOne K (.type "bool") (.type "bool")=some true)
  (y_bi:PySem.W.kitOne K (.type "bool") (.type "int")=some true)
  (y_bl:PySem.W.kitOne K (.type "bool") (.type "list")=some false)
  (y_bt:PySem.W.kitOne K (.type "bool") (.type "tuple")=some false)
  (y_ib:PySem.W.kitOne K (.type "int") (.type "bool")=some false)
  (y_ii:PySem.W.kitOne K (.type "int") (.type "int")=some true)
  (y_il:PySem.W.kitOne K (.type "int") (.type "list")=some false)
  (y_it:PySem.W.kitOne K (.type "int") (.type "tuple")=some false)
  (y_nb:PySem.W.kitOne K (.type "NoneType") (.type "bool")=some false)
  (y_ni:PySem.W.kitOne K (.type "NoneType") (.type "int")=some false)
  (y_nl:PySem.W.kitOne K (.type "NoneType") (.type "list")=some false)
  (y_nt:PySem.W.kitOne K (.type "NoneType") (.type "tuple")=some false)
  (y_sb:PySem.W.kitOne K (.type "str") (.type "bool")=some false)
  (y_si:PySem.W.kitOne K (.type "str") (.type "int")=some false)
  (y_sl:PySem.W.kitOne K (.type "str") (.type "list")=some false)
  (y_st:PySem.W.kitOne K (.type "str") (.type "tuple")=some false)
  (y_lb:PySem.W.kitOne K (.type "list") (.type "bool")=some false)
  (y_li:PySem.W.kitOne K (.type "list") (.type "int")=some false)
  (y_ll:PySem.W.kitOne K (.type "list") (.type "list")=some true)
  (y_lt:PySem.W.kitOne K (.type "list") (.type "tuple")=some false)
  (y_tb:PySem.W.kitOne K (.type "tuple") (.type "bool")=some false)
  (y_ti:PySem.W.kitOne K (.type "tuple") (.type "int")=some false)
  (y_tl:PySem.W.kitOne K (.type "tuple") (.type "list")=some false)
  (y_tt:PySem.W.kitOne K (.type "tuple") (.type "tuple")=some true)
  (y_db:PySem.W.kitOne K (.type "dict") (.type "bool")=some false)
  (y_di:PySem.W.kitOne K (.type "dict") (.type "int")=some false)
  (y_dl:PySem.W.kitOne K (.type "dict") (.type "list")=some false)
  (y_dt:PySem.W.kitOne K (.type "dict") (.type "tuple")=some false) :
  ∃ fd:FuncData,(∀ (s:Shared) (v:Value),BindsTo s fd ⟨[v],[]⟩ [("_law_script",v)])∧∀ base:Heap,K.In base→base.Ns mainGlobals mg→aT l.prog w K mg base CX0 7 fa fd ["_law_script"] (vv K):=by
 have e:=hfa.symm.trans (PySem.W.mg_of X G a64)
 cases e
 have T:Txt K mg ⟨bM,cN,aC,aH,aB,aW,bj,f0,PySem.W.fnOf "is_whole" "is_whole" (ai dq) (ah dq) (ab dq) .none kV0 dc0 pm0 an0 cd0 ct0,f1,PySem.W.fnOf "is_number" "is_number" (ai cQ) (ah cQ) (ab cQ) .none kV1 dc1 pm1 an1 cd1 ct1,f2,PySem.W.fnOf "is_row" "is_row" (ai ek) (ah ek) (ab ek) .none kV2 dc2 pm2 an2 cd2 ct2,f3,PySem.W.fnOf "are_halves" "are_halves" (ai cu) (ah cu) (ab cu) .none kV3 dc3 pm3 an3 cd3 ct3,f4,PySem.W.fnOf "is_size" "is_size" (ai dY) (ah dY) (ab dY) .none kV4 dc4 pm4 an4 cd4 ct4,f5,PySem.W.fnOf "is_place_within" "is_place_within" (ai bg) (ah bg) (ab bg) .none kV5 dc5 pm5 an5 cd5 ct5,f6,PySem.W.fnOf "pairs_of" "pairs_of" (ai dn) (ah dn) (ab dn) .none kV6 dc6 pm6 an6 cd6 ct6,f7,PySem.W.fnOf "gaps_of" "gaps_of" (ai dE) (ah dE) (ab dE) .none kV7 dc7 pm7 an7 cd7 ct7,f8,PySem.W.fnOf "word" "Sums.word" (ai cX) (ah cX) (ab cX) .none kV8 dc8 pm8 an8 cd8 ct8,f9,PySem.W.fnOf "halves" "Sums.halves" (ai bY) (ah bY) (ab bY) .none kV9 dc9 pm9 an9 cd9 ct9,f10,PySem.W.fnOf "back" "Sums.back" (ai cY) (ah cY) (ab cY) .none kV10 dc10 pm10 an10 cd10 ct10,f11,PySem.W.fnOf "parted" "Sums.parted" (ai bW) (ah bW) (ab bW) .none kV11 dc11 pm11 an11 cd11 ct11,f12,PySem.W.fnOf "joined" "Sums.joined" (ai bX) (ah bX) (ab bX) .none kV12 dc12 pm12 an12 cd12 ct12,f13,PySem.W.fnOf "sums_of" "Sums.sums_of" (ai bB) (ah bB) (ab bB) .none kV13 dc13 pm13 an13 cd13 ct13,f14,PySem.W.fnOf "row_of" "Sums.row_of" (ai bV) (ah bV) (ab bV) .none kV14 dc14 pm14 an14 cd14 ct14,f15,PySem.W.fnOf "sum_of_pair" "Sums.sum_of_pair" (ai aX) (ah aX) (ab aX) .none kV15 dc15 pm15 an15 cd15 ct15,f16,PySem.W.fnOf "sum_of_lone" "Sums.sum_of_lone" (ai aY) (ah aY) (ab aY) .none kV16 dc16 pm16 an16 cd16 ct16,f17,PySem.W.fnOf "pair_of" "Sums.pair_of" (ai bH) (ah bH) (ab bH) .none kV17 dc17 pm17 an17 cd17 ct17,f18,PySem.W.fnOf "lone_of" "Sums.lone_of" (ai bI) (ah bI) (ab bI) .none kV18 dc18 pm18 an18 cd18 ct18,f19,PySem.W.fnOf "word" "Halves.word" (ai b7) (ah b7) (ab b7) .none kV19 dc19 pm19 an19 cd19 ct19,f20,PySem.W.fnOf "sum_of_pair" "Halves.sum_of_pair" (ai aP) (ah aP) (ab aP) .none kV20 dc20 pm20 an20 cd20 ct20,f21,PySem.W.fnOf "sum_of_lone" "Halves.sum_of_lone" (ai aQ) (ah aQ) (ab aQ) .none kV21 dc21 pm21 an21 cd21 ct21,f22,PySem.W.fnOf "pair_of" "Halves.pair_of" (ai bp) (ah bp) (ab bp) .none kV22 dc22 pm22 an22 cd22 ct22,f23,PySem.W.fnOf "lone_of" "Halves.lone_of" (ai bq) (ah bq) (ab bq) .none kV23 dc23 pm23 an23 cd23 ct23,f24,PySem.W.fnOf "near" "near" (ai jr) (ah jr) (ab jr) .none kV24 dc24 pm24 an24 cd24 ct24,f25,PySem.W.fnOf "woven" "woven" (ai gK) (ah gK) (ab gK) .none kV25 dc25 pm25 an25 cd25 ct25,f26,PySem.W.fnOf "guesses" "guesses" (ai dD) (ah dD) (ab dD) .none kV26 dc26 pm26 an26 cd26 ct26,f27,PySem.W.fnOf "lifts" "lifts" (ai fN) (ah fN) (ab fN) .none kV27 dc27 pm27 an27 cd27 ct27,f28,PySem.W.fnOf "leans" "leans" (ai fO) (ah fO) (ab fO) .none kV28 dc28 pm28 an28 cd28 ct28,f29,PySem.W.fnOf "word" "Guessed.word" (ai bK) (ah bK) (ab bK) .none kV29 dc29 pm29 an29 cd29 ct29,f30,PySem.W.fnOf "parted" "Guessed.parted" (ai aU) (ah aU) (ab aU) .none kV30 dc30 pm30 an30 cd30 ct30,f31,PySem.W.fnOf "joined" "Guessed.joined" (ai aV) (ah aV) (ab aV) .none kV31 dc31 pm31 an31 cd31 ct31,f32,PySem.W.fnOf "word" "Leaning.word" (ai bJ) (ah bJ) (ab bJ) .none kV32 dc32 pm32 an32 cd32 ct32,f33,PySem.W.fnOf "parted" "Leaning.parted" (ai bc) (ah bc) (ab bc) .none kV33 dc33 pm33 an33 cd33 ct33,f34,PySem.W.fnOf "joined" "Leaning.joined" (ai bf) (ah bf) (ab bf) .none kV34 dc34 pm34 an34 cd34 ct34,f35,PySem.W.fnOf "all_rules" "all_rules" (ai cS) (ah cS) (ab cS) .none kV35 dc35 pm35 an35 cd35 ct35,f36,PySem.W.fnOf "rule_of" "rule_of" (ai dX) (ah dX) (ab dX) .none kV36 dc36 pm36 an36 cd36 ct36,f37,PySem.W.fnOf "can_halve" "can_halve" (ai cR) (ah cR) (ab cR) .none kV37 dc37 pm37 an37 cd37 ct37,f38,PySem.W.fnOf "corners_of" "corners_of" (ai cq) (ah cq) (ab cq) .none kV38 dc38 pm38 an38 cd38 ct38,f39,PySem.W.fnOf "places_of" "places_of" (ai cF) (ah cF) (ab cF) .none kV39 dc39 pm39 an39 cd39 ct39,f40,PySem.W.fnOf "__init__" "Plan.__init__" (ai bD) (ah bD) (ab bD) .none kV40 dc40 pm40 an40 cd40 ct40,f41,PySem.W.fnOf "height" "Plan.height" (ai bZ) (ah bZ) (ab bZ) .none kV41 dc41 pm41 an41 cd41 ct41,f42,PySem.W.fnOf "width" "Plan.width" (ai cz) (ah cz) (ab cz) .none kV42 dc42 pm42 an42 cd42 ct42,f43,PySem.W.fnOf "rule" "Plan.rule" (ai cZ) (ah cZ) (ab cZ) .none kV43 dc43 pm43 an43 cd43 ct43,f44,PySem.W.fnOf "way" "Plan.way" (ai dv) (ah dv) (ab dv) .none kV44 dc44 pm44 an44 cd44 ct44,f45,PySem.W.fnOf "steps" "Plan.steps" (ai cA) (ah cA) (ab cA) .none kV45 dc45 pm45 an45 cd45 ct45,f46,PySem.W.fnOf "corner" "Plan.corner" (ai b6) (ah b6) (ab b6) .none kV46 dc46 pm46 an46 cd46 ct46,f47,PySem.W.fnOf "parts" "Plan.parts" (ai cB) (ah cB) (ab cB) .none kV47 dc47 pm47 an47 cd47 ct47,f48,PySem.W.fnOf "parts_of_step" "Plan.parts_of_step" (ai aO) (ah aO) (ab aO) .none kV48 dc48 pm48 an48 cd48 ct48,f49,PySem.W.fnOf "order" "Plan.order" (ai b9) (ah b9) (ab b9) .none kV49 dc49 pm49 an49 cd49 ct49,f50,PySem.W.fnOf "halvings" "Plan.halvings" (ai bC) (ah bC) (ab bC) .none kV50 dc50 pm50 an50 cd50 ct50,f51,PySem.W.fnOf "_law_cell" "_law_cell" (ai cW) (ah cW) (ab cW) .none kV51 dc51 pm51 an51 cd51 ct51,f52,PySem.W.fnOf "_law_box" "_law_box" (ai du) (ah du) (ab du) .none kV52 dc52 pm52 an52 cd52 ct52,f53,PySem.W.fnOf "_law_take" "_law_take" (ai cT) (ah cT) (ab cT) .none kV53 dc53 pm53 an53 cd53 ct53,f54,PySem.W.fnOf "_law_size" "_law_size" (ai cU) (ah cU) (ab cU) .none kV54 dc54 pm54 an54 cd54 ct54,f55,PySem.W.fnOf "_law_way" "_law_way" (ai dr) (ah dr) (ab dr) .none kV55 dc55 pm55 an55 cd55 ct55,f56,PySem.W.fnOf "_law_corners" "_law_corners" (ai bF) (ah bF) (ab bF) .none kV56 dc56 pm56 an56 cd56 ct56,f57,PySem.W.fnOf "_law_whole" "_law_whole" (ai cv) (ah cv) (ab cv) .none kV57 dc57 pm57 an57 cd57 ct57,f58,PySem.W.fnOf "_law_parts" "_law_parts" (ai cx) (ah cx) (ab cx) .none kV58 dc58 pm58 an58 cd58 ct58,f59,PySem.W.fnOf "_law_order" "_law_order" (ai cy) (ah cy) (ab cy) .none kV59 dc59 pm59 an59 cd59 ct59,f60,PySem.W.fnOf "_law_many" "_law_many" (ai cV) (ah cV) (ab cV) .none kV60 dc60 pm60 an60 cd60 ct60,f61,PySem.W.fnOf "_law_numbers_right" "_law_numbers_right" (ai aK) (ah aK) (ab aK) .none kV61 dc61 pm61 an61 cd61 ct61,f62,PySem.W.fnOf "_law_places_right" "_law_places_right" (ai aM) (ah aM) (ab aM) .none kV62 dc62 pm62 an62 cd62 ct62,f63,PySem.W.fnOf "_law_shaken" "_law_shaken" (ai bU) (ah bU) (ab bU) .none kV63 dc63 pm63 an63 cd63 ct63,fa,PySem.W.fnOf "law" "law" (ai nv) (ah nv) (ab nv) .none kV64 dc64 pm64 an64 cd64 ct64⟩:=⟨⟨pg_Guessed,hd_Guessed,po_Guessed,sa_Guessed⟩,
  PySem.W.mg_of X G aC_Guessed,
  ⟨mk_Guessed,in_Guessed,kc_Guessed⟩,
  ⟨pg_Halves,hd_Halves,po_Halves,sa_Halves⟩,
  PySem.W.mg_of X G aC_Halves,
  ⟨mk_Halves,in_Halves,kc_Halves⟩,
  ⟨pg_Leaning,hd_Leaning,po_Leaning,sa_Leaning⟩,
  PySem.W.mg_of X G aC_Leaning,
  ⟨mk_Leaning,in_Leaning,kc_Leaning⟩,
  ⟨pg_Plan,hd_Plan,po_Plan,sa_Plan⟩,
  PySem.W.mg_of X G aC_Plan,
  ⟨pg_Sums,hd_Sums,po_Sums,sa_Sums⟩,
  PySem.W.mg_of X G aC_Sums,
  ⟨mk_Sums,in_Sums,kc_Sums⟩,
  n_Plan_chosen,
  n_Plan_corners,
  n_Plan_letters,
  ⟨PySem.W.mg_of X G q_ALONG_PILLARS,fun F=>.inr ⟨_,_,_,lk_ALONG_PILLARS,rfl,rfl,z2,.cons ⟨_,rfl⟩ (.cons ⟨_,rfl⟩ (.nil))⟩⟩,
  ⟨PySem.W.mg_of X G q_ALONG_ROWS,fun F=>.inr ⟨_,_,_,lk_ALONG_ROWS,rfl,rfl,z2,.cons ⟨_,rfl⟩ (.cons ⟨_,rfl⟩ (.nil))⟩⟩,
  ⟨y_bs,y_is,y_ns,y_ss,y_ls,y_ts,y_ds⟩,
  ao (st:=dq) l0 c0 k0,
  (ao (st:=dq) l0 c0 k0).binds (ps:=["thing","low","high"]) fun _ _ _ _ _ _ _ hl=>by obtain⟨_,_,_,rfl⟩:=ln3 hl;rfl,
  PySem.W.mg_of X G a0,
  ao (st:=cQ) l1 c1 k1,
  (ao (st:=cQ) l1 c1 k1).binds (ps:=["thing"]) fun _ _ _ _ _ _ _ hl=>by obtain⟨_,rfl⟩:=ln1 hl;rfl,
  PySem.W.mg_of X G a1,
  ao (st:=ek) l2 c2 k2,
  (ao (st:=ek) l2 c2 k2).binds (ps:=["thing","least"]) fun _ _ _ _ _ _ _ hl=>by obtain⟨_,_,rfl⟩:=ln2 hl;rfl,
  PySem.W.mg_of X G a2,
  ao (st:=cu) l3 c3 k3,
  (ao (st:=cu) l3 c3 k3).binds (ps:=["sums","differences"]) fun _ _ _ _ _ _ _ hl=>by obtain⟨_,_,rfl⟩:=ln2 hl;rfl,
  PySem.W.mg_of X G a3,
  ao (st:=dY) l4 c4 k4,
  (ao (st:=dY) l4 c4 k4).binds (ps:=["height","width"]) fun _ _ _ _ _ _ _ hl=>by obtain⟨_,_,rfl⟩:=ln2 hl;rfl,
  PySem.W.mg_of X G a4,
  ao (st:=bg) l5 c5 k5,
  (ao (st:=bg) l5 c5 k5).binds (ps:=["thing","height","width"]) fun _ _ _ _ _ _ _ hl=>by obtain⟨_,_,_,rfl⟩:=ln3 hl;rfl,
  PySem.W.mg_of X G a5,
  ao (st:=dn) l6 c6 k6,
  (ao (st:=dn) l6 c6 k6).binds (ps:=["row"]) fun _ _ _ _ _ _ _ hl=>by obtain⟨_,rfl⟩:=ln1 hl;rfl,
  PySem.W.mg_of X G a6,
  ao (st:=dE) l7 c7 k7,
  (ao (st:=dE) l7 c7 k7).binds (ps:=["row"]) fun _ _ _ _ _ _ _ hl=>by obtain⟨_,rfl⟩:=ln1 hl;rfl,
  PySem.W.mg_of X G a7,
  ao (st:=cX) l8 c8 k8,
  (ao (st:=cX) l8 c8 k8).binds (ps:=["self"]) fun _ _ _ _ _ _ _ hl=>by obtain⟨_,rfl⟩:=ln1 hl;rfl,
  ao (st:=bY) l9 c9 k9,
  (ao (st:=bY) l9 c9 k9).binds (ps:=["self","row"]) fun _ _ _ _ _ _ _ hl=>by obtain⟨_,_,rfl⟩:=ln2 hl;rfl,
  ao (st:=cY) l10 c10 k10,
  (ao (st:=cY) l10 c10 k10).binds (ps:=["self","sums","differences"]) fun _ _ _ _ _ _ _ hl=>by obtain⟨_,_,_,rfl⟩:=ln3 hl;rfl,
  ao (st:=bW) l11 c11 k11,
  (ao (st:=bW) l11 c11 k11).binds (ps:=["self","row"]) fun _ _ _ _ _ _ _ hl=>by obtain⟨_,_,rfl⟩:=ln2 hl;rfl,
  ao (st:=bX) l12 c12 k12,
  (ao (st:=bX) l12 c12 k12).binds (ps:=["self","sums","differences"]) fun _ _ _ _ _ _ _ hl=>by obtain⟨_,_,_,rfl⟩:=ln3 hl;rfl,
  ao (st:=bB) l13 c13 k13,
  (ao (st:=bB) l13 c13 k13).binds (ps:=["self","row"]) fun _ _ _ _ _ _ _ hl=>by obtain⟨_,_,rfl⟩:=ln2 hl;rfl,
  ao (st:=bV) l14 c14 k14,
  (ao (st:=bV) l14 c14 k14).binds (ps:=["self","sums","gaps"]) fun _ _ _ _ _ _ _ hl=>by obtain⟨_,_,_,rfl⟩:=ln3 hl;rfl,
  ao (st:=aX) l15 c15 k15,
  (ao (st:=aX) l15 c15 k15).binds (ps:=["self","first","second"]) fun _ _ _ _ _ _ _ hl=>by obtain⟨_,_,_,rfl⟩:=ln3 hl;rfl,
  ao (st:=aY) l16 c16 k16,
  (ao (st:=aY) l16 c16 k16).binds (ps:=["self","number"]) fun _ _ _ _ _ _ _ hl=>by obtain⟨_,_,rfl⟩:=ln2 hl;rfl,
  ao (st:=bH) l17 c17 k17,
  (ao (st:=bH) l17 c17 k17).binds (ps:=["self","total","gap"]) fun _ _ _ _ _ _ _ hl=>by obtain⟨_,_,_,rfl⟩:=ln3 hl;rfl,
  ao (st:=bI) l18 c18 k18,
  (ao (st:=bI) l18 c18 k18).binds (ps:=["self","total"]) fun _ _ _ _ _ _ _ hl=>by obtain⟨_,_,rfl⟩:=ln2 hl;rfl,
  ao (st:=b7) l19 c19 k19,
  (ao (st:=b7) l19 c19 k19).binds (ps:=["self"]) fun _ _ _ _ _ _ _ hl=>by obtain⟨_,rfl⟩:=ln1 hl;rfl,
  ao (st:=aP) l20 c20 k20,
  (ao (st:=aP) l20 c20 k20).binds (ps:=["self","first","second"]) fun _ _ _ _ _ _ _ hl=>by obtain⟨_,_,_,rfl⟩:=ln3 hl;rfl,
  ao (st:=aQ) l21 c21 k21,
  (ao (st:=aQ) l21 c21 k21).binds (ps:=["self","number"]) fun _ _ _ _ _ _ _ hl=>by obtain⟨_,_,rfl⟩:=ln2 hl;rfl,
  ao (st:=bp) l22 c22 k22,
  (ao (st:=bp) l22 c22 k22).binds (ps:=["self","total","gap"]) fun _ _ _ _ _ _ _ hl=>by obtain⟨_,_,_,rfl⟩:=ln3 hl;rfl,
  ao (st:=bq) l23 c23 k23,
  (ao (st:=bq) l23 c23 k23).binds (ps:=["self","total"]) fun _ _ _ _ _ _ _ hl=>by obtain⟨_,_,rfl⟩:=ln2 hl;rfl,
  ao (st:=jr) l24 c24 k24,
  (ao (st:=jr) l24 c24 k24).binds (ps:=["numbers","at"]) fun _ _ _ _ _ _ _ hl=>by obtain⟨_,_,rfl⟩:=ln2 hl;rfl,
  PySem.W.mg_of X G a24,
  ao (st:=gK) l25 c25 k25,
  (ao (st:=gK) l25 c25 k25).binds (ps:=["firsts","seconds"]) fun _ _ _ _ _ _ _ hl=>by obtain⟨_,_,rfl⟩:=ln2 hl;rfl,
  PySem.W.mg_of X G a25,
  ao (st:=dD) l26 c26 k26,
  (ao (st:=dD) l26 c26 k26).binds (ps:=["firsts","many"]) fun _ _ _ _ _ _ _ hl=>by obtain⟨_,_,rfl⟩:=ln2 hl;rfl,
  PySem.W.mg_of X G a26,
  ao (st:=fN) l27 c27 k27,
  (ao (st:=fN) l27 c27 k27).binds (ps:=["differences","many"]) fun _ _ _ _ _ _ _ hl=>by obtain⟨_,_,rfl⟩:=ln2 hl;rfl,
  PySem.W.mg_of X G a27,
  ao (st:=fO) l28 c28 k28,
  (ao (st:=fO) l28 c28 k28).binds (ps:=["sums","many"]) fun _ _ _ _ _ _ _ hl=>by obtain⟨_,_,rfl⟩:=ln2 hl;rfl,
  PySem.W.mg_of X G a28,
  ao (st:=bK) l29 c29 k29,
  (ao (st:=bK) l29 c29 k29).binds (ps:=["self"]) fun _ _ _ _ _ _ _ hl=>by obtain⟨_,rfl⟩:=ln1 hl;rfl,
  ao (st:=aU) l30 c30 k30,
  (ao (st:=aU) l30 c30 k30).binds (ps:=["self","row"]) fun _ _ _ _ _ _ _ hl=>by obtain⟨_,_,rfl⟩:=ln2 hl;rfl,
  ao (st:=aV) l31 c31 k31,
  (ao (st:=aV) l31 c31 k31).binds (ps:=["self","sums","differences"]) fun _ _ _ _ _ _ _ hl=>by obtain⟨_,_,_,rfl⟩:=ln3 hl;rfl,
  ao (st:=bJ) l32 c32 k32,
  (ao (st:=bJ) l32 c32 k32).binds (ps:=["self"]) fun _ _ _ _ _ _ _ hl=>by obtain⟨_,rfl⟩:=ln1 hl;rfl,
  ao (st:=bc) l33 c33 k33,
  (ao (st:=bc) l33 c33 k33).binds (ps:=["self","row"]) fun _ _ _ _ _ _ _ hl=>by obtain⟨_,_,rfl⟩:=ln2 hl;rfl,
  ao (st:=bf) l34 c34 k34,
  (ao (st:=bf) l34 c34 k34).binds (ps:=["self","sums","differences"]) fun _ _ _ _ _ _ _ hl=>by obtain⟨_,_,_,rfl⟩:=ln3 hl;rfl,
  ao (st:=cS) l35 c35 k35,
  (ao (st:=cS) l35 c35 k35).binds (ps:=[]) fun _ _ _ _ _ _ _ hl=>by obtain rfl:=ln0 hl;rfl,
  PySem.W.mg_of X G a35,
  ao (st:=dX) l36 c36 k36,
  (ao (st:=dX) l36 c36 k36).binds (ps:=["word"]) fun _ _ _ _ _ _ _ hl=>by obtain⟨_,rfl⟩:=ln1 hl;rfl,
  PySem.W.mg_of X G a36,
  ao (st:=cR) l37 c37 k37,
  (ao (st:=cR) l37 c37 k37).binds (ps:=["letter","height","width"]) fun _ _ _ _ _ _ _ hl=>by obtain⟨_,_,_,rfl⟩:=ln3 hl;rfl,
  PySem.W.mg_of X G a37,
  ao (st:=cq) l38 c38 k38,
  (ao (st:=cq) l38 c38 k38).binds (ps:=["height","width","way"]) fun _ _ _ _ _ _ _ hl=>by obtain⟨_,_,_,rfl⟩:=ln3 hl;rfl,
  PySem.W.mg_of X G a38,
  ao (st:=cF) l39 c39 k39,
  (ao (st:=cF) l39 c39 k39).binds (ps:=["part"]) fun _ _ _ _ _ _ _ hl=>by obtain⟨_,rfl⟩:=ln1 hl;rfl,
  PySem.W.mg_of X G a39,
  ao (st:=bD) l40 c40 k40,
  (ao (st:=bD) l40 c40 k40).binds (ps:=["self","height","width","word","way"]) fun _ _ _ _ _ _ _ hl=>by obtain⟨_,_,_,_,_,rfl⟩:=ln5 hl;rfl,
  ao (st:=bZ) l41 c41 k41,
  (ao (st:=bZ) l41 c41 k41).binds (ps:=["self"]) fun _ _ _ _ _ _ _ hl=>by obtain⟨_,rfl⟩:=ln1 hl;rfl,
  ao (st:=cz) l42 c42 k42,
  (ao (st:=cz) l42 c42 k42).binds (ps:=["self"]) fun _ _ _ _ _ _ _ hl=>by obtain⟨_,rfl⟩:=ln1 hl;rfl,
  ao (st:=cZ) l43 c43 k43,
  (ao (st:=cZ) l43 c43 k43).binds (ps:=["self"]) fun _ _ _ _ _ _ _ hl=>by obtain⟨_,rfl⟩:=ln1 hl;rfl,
  ao (st:=dv) l44 c44 k44,
  (ao (st:=dv) l44 c44 k44).binds (ps:=["self"]) fun _ _ _ _ _ _ _ hl=>by obtain⟨_,rfl⟩:=ln1 hl;rfl,
  ao (st:=cA) l45 c45 k45,
  (ao (st:=cA) l45 c45 k45).binds (ps:=["self"]) fun _ _ _ _ _ _ _ hl=>by obtain⟨_,rfl⟩:=ln1 hl;rfl,
  ao (st:=b6) l46 c46 k46,
  (ao (st:=b6) l46 c46 k46).binds (ps:=["self","step"]) fun _ _ _ _ _ _ _ hl=>by obtain⟨_,_,rfl⟩:=ln2 hl;rfl,
  ao (st:=cB) l47 c47 k47,
  (ao (st:=cB) l47 c47 k47).binds (ps:=["self"]) fun _ _ _ _ _ _ _ hl=>by obtain⟨_,rfl⟩:=ln1 hl;rfl,
  ao (st:=aO) l48 c48 k48,
  (ao (st:=aO) l48 c48 k48).binds (ps:=["self","step"]) fun _ _ _ _ _ _ _ hl=>by obtain⟨_,_,rfl⟩:=ln2 hl;rfl,
  ao (st:=b9) l49 c49 k49,
  (ao (st:=b9) l49 c49 k49).binds (ps:=["self"]) fun _ _ _ _ _ _ _ hl=>by obtain⟨_,rfl⟩:=ln1 hl;rfl,
  ao (st:=bC) l50 c50 k50,
  (ao (st:=bC) l50 c50 k50).binds (ps:=["self","place"]) fun _ _ _ _ _ _ _ hl=>by obtain⟨_,_,rfl⟩:=ln2 hl;rfl,
  ao (st:=cW) l51 c51 k51,
  (ao (st:=cW) l51 c51 k51).binds (ps:=["_law_script","_law_k"]) fun _ _ _ _ _ _ _ hl=>by obtain⟨_,_,rfl⟩:=ln2 hl;rfl,
  PySem.W.mg_of X G a51,
  ao (st:=du) l52 c52 k52,
  (ao (st:=du) l52 c52 k52).binds (ps:=["_law_cell_here"]) fun _ _ _ _ _ _ _ hl=>by obtain⟨_,rfl⟩:=ln1 hl;rfl,
  PySem.W.mg_of X G a52,
  ao (st:=cT) l53 c53 k53,
  (ao (st:=cT) l53 c53 k53).binds (ps:=["_law_box_here","_law_many_here"]) fun _ _ _ _ _ _ _ hl=>by obtain⟨_,_,rfl⟩:=ln2 hl;rfl,
  PySem.W.mg_of X G a53,
  ao (st:=cU) l54 c54 k54,
  (ao (st:=cU) l54 c54 k54).binds (ps:=["_law_box_here"]) fun _ _ _ _ _ _ _ hl=>by obtain⟨_,rfl⟩:=ln1 hl;rfl,
  PySem.W.mg_of X G a54,
  ao (st:=dr) l55 c55 k55,
  (ao (st:=dr) l55 c55 k55).binds (ps:=["_law_box_here","_law_size_here"]) fun _ _ _ _ _ _ _ hl=>by obtain⟨_,_,rfl⟩:=ln2 hl;rfl,
  PySem.W.mg_of X G a55,
  ao (st:=bF) l56 c56 k56,
  (ao (st:=bF) l56 c56 k56).binds (ps:=["_law_size_here","_law_way_here"]) fun _ _ _ _ _ _ _ hl=>by obtain⟨_,_,rfl⟩:=ln2 hl;rfl,
  PySem.W.mg_of X G a56,
  ao (st:=cv) l57 c57 k57,
  (ao (st:=cv) l57 c57 k57).binds (ps:=["_law_found"]) fun _ _ _ _ _ _ _ hl=>by obtain⟨_,rfl⟩:=ln1 hl;rfl,
  PySem.W.mg_of X G a57,
  ao (st:=cx) l58 c58 k58,
  (ao (st:=cx) l58 c58 k58).binds (ps:=["_law_size_here","_law_way_here"]) fun _ _ _ _ _ _ _ hl=>by obtain⟨_,_,rfl⟩:=ln2 hl;rfl,
  PySem.W.mg_of X G a58,
  ao (st:=cy) l59 c59 k59,
  (ao (st:=cy) l59 c59 k59).binds (ps:=["_law_parts_here"]) fun _ _ _ _ _ _ _ hl=>by obtain⟨_,rfl⟩:=ln1 hl;rfl,
  PySem.W.mg_of X G a59,
  ao (st:=cV) l60 c60 k60,
  (ao (st:=cV) l60 c60 k60).binds (ps:=["_law_way_here","_law_step"]) fun _ _ _ _ _ _ _ hl=>by obtain⟨_,_,rfl⟩:=ln2 hl;rfl,
  PySem.W.mg_of X G a60,
  ao (st:=aK) l61 c61 k61,
  (ao (st:=aK) l61 c61 k61).binds (ps:=["_law_plan","_law_size_here","_law_word","_law_way_here"]) fun _ _ _ _ _ _ _ hl=>by obtain⟨_,_,_,_,rfl⟩:=ln4 hl;rfl,
  PySem.W.mg_of X G a61,
  ao (st:=aM) l62 c62 k62,
  (ao (st:=aM) l62 c62 k62).binds (ps:=["_law_plan","_law_size_here","_law_way_here"]) fun _ _ _ _ _ _ _ hl=>by obtain⟨_,_,_,rfl⟩:=ln3 hl;rfl,
  PySem.W.mg_of X G a62,
  ao (st:=bU) l63 c63 k63,
  (ao (st:=bU) l63 c63 k63).binds (ps:=["_law_box_here","_law_some"]) fun _ _ _ _ _ _ _ hl=>by obtain⟨_,_,rfl⟩:=ln2 hl;rfl,
  PySem.W.mg_of X G a63,
  ao (st:=nv) l64 c64 k64,
  (ao (st:=nv) l64 c64 k64).binds (ps:=["_law_script"]) fun _ _ _ _ _ _ _ hl=>by obtain⟨_,rfl⟩:=ln1 hl;rfl,
  PySem.W.mg_of X G a64,
  ⟨mk_Plan,a40,i40,kc_Plan⟩,
  ⟨a29,i29,k29⟩,
  ⟨a30,i30,k30⟩,
  ⟨a31,i31,k31⟩,
  ⟨a9,i9,k9⟩,
  ⟨a10,i10,k10⟩,
  ⟨a13,i13,k13⟩,
  ⟨a14,i14,k14⟩,
  ⟨a15,i15,k15⟩,
  ⟨a16,i16,k16⟩,
  ⟨a17,i17,k17⟩,
  ⟨a18,i18,k18⟩,
  ⟨a19,i19,k19⟩,
  ⟨a20,i20,k20⟩,
  ⟨a21,i21,k21⟩,
  ⟨a22,i22,k22⟩,
  ⟨a23,i23,k23⟩,
  ⟨e_Halves_halves,i9,k9⟩,
  ⟨e_Halves_back,i10,k10⟩,
  ⟨a11,i11,k11⟩,
  ⟨a12,i12,k12⟩,
  ⟨e_Halves_sums_of,i13,k13⟩,
  ⟨e_Halves_row_of,i14,k14⟩,
  ⟨a32,i32,k32⟩,
  ⟨a33,i33,k33⟩,
  ⟨a34,i34,k34⟩,
  ⟨e_Leaning_sum_of_pair,i20,k20⟩,
  ⟨e_Leaning_sum_of_lone,i21,k21⟩,
  ⟨e_Leaning_pair_of,i22,k22⟩,
  ⟨e_Leaning_lone_of,i23,k23⟩,
  ⟨e_Leaning_halves,i9,k9⟩,
  ⟨e_Leaning_back,i10,k10⟩,
  ⟨e_Leaning_sums_of,i13,k13⟩,
  ⟨e_Leaning_row_of,i14,k14⟩,
  ⟨a41,i41,k41⟩,
  ⟨a42,i42,k42⟩,
  ⟨a43,i43,k43⟩,
  ⟨a44,i44,k44⟩,
  ⟨a45,i45,k45⟩,
  ⟨a46,i46,k46⟩,
  ⟨a47,i47,k47⟩,
  ⟨a48,i48,k48⟩,
  ⟨a49,i49,k49⟩,
  ⟨a50,i50,k50⟩,
  ⟨a8,i8,k8⟩,
  ⟨e_Sums_halves,i9,k9⟩,
  ⟨e_Sums_back,i10,k10⟩,
  ⟨e_Sums_parted,i11,k11⟩,
  ⟨e_Sums_joined,i12,k12⟩,
  ⟨e_Sums_sums_of,i13,k13⟩,
  ⟨e_Sums_row_of,i14,k14⟩,
  ⟨e_Sums_sum_of_pair,i15,k15⟩,
  ⟨e_Sums_sum_of_lone,i16,k16⟩,
  ⟨e_Sums_pair_of,i17,k17⟩,
  ⟨e_Sums_lone_of,i18,k18⟩,
  ⟨_,PySem.W.mg_of X G q_MOST_NUMBER⟩,
  ⟨_,PySem.W.mg_of X G q_MOST_PLACES⟩,
  ⟨_,PySem.W.mg_of X G q_MOST_SIDE⟩,
  PySem.W.mg_none_of X G z_all,
  PySem.W.mg_none_of X G z_bool,
  PySem.W.mg_none_of X G z_int,
  PySem.W.mg_none_of X G z_isinstance,
  PySem.W.mg_none_of X G z_len,
  PySem.W.mg_none_of X G z_list,
  PySem.W.mg_none_of X G z_max,
  PySem.W.mg_none_of X G z_min,
  PySem.W.mg_none_of X G z_range,
  PySem.W.mg_none_of X G z_repr,
  PySem.W.mg_none_of X G z_reversed,
  PySem.W.mg_none_of X G z_str,
  PySem.W.mg_none_of X G z_tuple,
  PySem.W.mg_none_of X G z_zip,
  ⟨y_bb,y_bi,y_bl,y_bt,y_ib,y_ii,y_il,y_it,y_nb,y_ni,y_nl,y_nt,y_sb,y_si,y_sl,y_st,y_lb,y_li,y_ll,y_lt,y_tb,y_ti,y_tl,y_tt,y_db,y_di,y_dl,y_dt⟩⟩
 exact⟨_,fun s v=>.of_eq rfl,fun base _ _=>IG T⟩
theorem walk {l:PySem.W.OpenLaw} {q:Program} {loose:List Str} {XP:(Str→Option Value)→Heap→Prop} {YP:World→Heap→Prop} {d:DefRec} {K:Params→PySem.W.Frag} (hn:l.most=some 63) (hdf:d.params.defaults=[])
  (hY:∀ (w:World) (h:Heap),YP w h→(K w.params).In h)
  (F:∀ (w:World) (mg:Str→Option Value) (fa:Addr) (h:Heap),(K w.params).In h→h.Ns mainGlobals mg→mg d.name=some (.ref fa)→
   ∃ fd:FuncData,(∀ (s:Shared) (u:Value),BindsTo s fd ⟨[u],[]⟩ [("_law_script",u)])∧∀ base:Heap,(K w.params).In base→base.Ns mainGlobals mg→aT l.prog w (K w.params) mg base CX0 7 fa fd ["_law_script"] (vv (K w.params))) :
  PySem.W.WalkO q loose XP YP l.row.toRowW d [] (fun f vs=>PySem.call f vs):=
 L2.E5 (n:=63) (k:=7) (x:="_law_script") (CX:=fun _=>CX0) (sp:=fun w=>vv (K w.params)) hn (by decide) hdf ⟨rfl,by decide,by decide,rfl⟩ hY F (fun _ _ a ns hl _ hS=>⟨a,ns,rfl,hS,hl,fun _=>rfl⟩) fun _ _ _ _ _ z=>z
end K21
namespace PySem.W.Fast
theorem tw15407021997682987301:True:=trivial
theorem tw12477322653616679886:True:=trivial
theorem tw16207350221506521038:True:=trivial
theorem tw11116544212199447502:True:=trivial
theorem tw8488469678015560622:True:=trivial
theorem tw12003384050252682062:True:=trivial
theorem tw10610187906210215726:True:=trivial
theorem tw12422694160939853550:True:=trivial
theorem tw2365013204933311054:True:=trivial
theorem tw6163930992755060270:True:=trivial
theorem tw9757404698986643982:True:=trivial
theorem tw13276319759408372142:True:=trivial
theorem tw7110012937637881966:True:=trivial
theorem tw115801121447738535:True:=trivial
theorem tw5825254631309724807:True:=trivial
theorem tw7071426658181527591:True:=trivial
theorem tw14868541066763714503:True:=trivial
theorem tw7542155899581416359:True:=trivial
theorem tw5060752593682466695:True:=trivial
theorem tw11937359403653380839:True:=trivial
theorem tw236046710082904775:True:=trivial
theorem tw3436911612530913991:True:=trivial
theorem tw16702509846484935335:True:=trivial
theorem tw13390197627036692135:True:=trivial
theorem tw5990080958331596423:True:=trivial
theorem tw4780654577553779303:True:=trivial
theorem tw18054069740336172583:True:=trivial
theorem tw13193598294063471111:True:=trivial
theorem tw10505600344172445159:True:=trivial
theorem tw6050362926022741447:True:=trivial
theorem tw295041880843976103:True:=trivial
theorem tw937712419342793095:True:=trivial
theorem tw17057572997893699975:True:=trivial
theorem tw5347710743429100775:True:=trivial
theorem tw4772175798443351239:True:=trivial
theorem tw7858225334114616700:True:=trivial
theorem tw10145239665046714620:True:=trivial
theorem tw12499570577499227324:True:=trivial
theorem tw11756933837610664092:True:=trivial
theorem tw10506198156795493532:True:=trivial
theorem tw15604257629364108444:True:=trivial
theorem tw9140044607828906908:True:=trivial
theorem tw7671114701633438492:True:=trivial
theorem tw2833119148381267740:True:=trivial
theorem tw13480380703241087740:True:=trivial
theorem tw13098298790549010172:True:=trivial
theorem tw8577025061865497340:True:=trivial
theorem tw14875904618638397116:True:=trivial
theorem tw7106914384462454460:True:=trivial
theorem tw14133766486418054812:True:=trivial
theorem tw10217739815946743388:True:=trivial
theorem tw5218634956567936508:True:=trivial
theorem tw704635589419526588:True:=trivial
theorem tw16313815422301641148:True:=trivial
theorem tw2208988713461677909:True:=trivial
theorem tw14313239946923544373:True:=trivial
theorem tw12062366677138691893:True:=trivial
theorem tw2807436063153441461:True:=trivial
theorem tw1134171544865785525:True:=trivial
theorem tw1993958764282715829:True:=trivial
theorem tw16497608000386864725:True:=trivial
theorem tw2176318385354892853:True:=trivial
theorem tw4607565296723384853:True:=trivial
theorem tw10529264656990094869:True:=trivial
theorem tw3834566534566017493:True:=trivial
theorem tw16136727133602204085:True:=trivial
theorem tw398122609918498101:True:=trivial
theorem tw3704878453424722197:True:=trivial
theorem tw10197710610812635317:True:=trivial
theorem tw6005296790615277749:True:=trivial
theorem tw12721856976427744277:True:=trivial
theorem tw6117189716506666965:True:=trivial
theorem tw9810483499430929269:True:=trivial
theorem tw370689258341623722:True:=trivial
theorem tw10488975946277486506:True:=trivial
theorem tw2872654287815439242:True:=trivial
theorem tw4177716213903451946:True:=trivial
theorem tw8967681910638335786:True:=trivial
theorem tw598663351568371466:True:=trivial
theorem tw7142229828218847946:True:=trivial
theorem tw7828827215459162730:True:=trivial
theorem tw15313462842671165002:True:=trivial
theorem tw10829655837708407274:True:=trivial
theorem tw327937802278094314:True:=trivial
theorem tw13484745532155688362:True:=trivial
theorem tw3933334638219361706:True:=trivial
theorem tw12873706669913699626:True:=trivial
theorem tw10228952710397851914:True:=trivial
theorem tw639835393867556970:True:=trivial
theorem tw17636461471322469482:True:=trivial
theorem tw3346954486535228490:True:=trivial
theorem tw7544562969112548019:True:=trivial
theorem tw2431339135537073843:True:=trivial
theorem tw17358819339166206323:True:=trivial
theorem tw7454885553876461907:True:=trivial
theorem tw17500799726177101139:True:=trivial
theorem tw2245567178051275059:True:=trivial
theorem tw12158323790284962035:True:=trivial
theorem tw229075896822414547:True:=trivial
theorem tw17326651536492285107:True:=trivial
theorem tw14798072232586978483:True:=trivial
theorem tw12749550644136373395:True:=trivial
theorem tw14292102059487630451:True:=trivial
theorem tw14448201620244449331:True:=trivial
theorem tw9892974452360900563:True:=trivial
theorem tw7705712954395780019:True:=trivial
theorem tw12848670149211067251:True:=trivial
theorem tw17110379781961813875:True:=trivial
theorem tw7804580183371255128:True:=trivial
theorem tw9320109082671333624:True:=trivial
theorem tw2183928054175508664:True:=trivial
theorem tw15657030461632212152:True:=trivial
theorem tw5231800877687386232:True:=trivial
theorem tw15105798636320341112:True:=trivial
theorem tw4118399061463914552:True:=trivial
theorem tw8312604078577055800:True:=trivial
theorem tw15458936412768764920:True:=trivial
theorem tw13742019352033821656:True:=trivial
theorem tw5408988294878956472:True:=trivial
theorem tw9629620541298182072:True:=trivial
theorem tw18104533861132840856:True:=trivial
theorem tw8101148555085953944:True:=trivial
theorem tw13897796404801588984:True:=trivial
theorem tw15651544859702892280:True:=trivial
theorem tw12813962224268253912:True:=trivial
theorem tw14795011167590623864:True:=trivial
theorem tw12660856775394336344:True:=trivial
theorem tw2401968541788766808:True:=trivial
theorem tw14608010159466089016:True:=trivial
theorem tw13440326733569234488:True:=trivial
theorem tw13429465545148180952:True:=trivial
theorem tw7333562387326464408:True:=trivial
theorem tw11950666379208586369:True:=trivial
theorem tw6119303920874306657:True:=trivial
theorem tw16807727092763119713:True:=trivial
theorem tw10888000487913730145:True:=trivial
theorem tw14022858128335688673:True:=trivial
theorem tw16746409844716532673:True:=trivial
theorem tw7227724818398160769:True:=trivial
theorem tw2236194835904975617:True:=trivial
theorem tw4899682976543781633:True:=trivial
theorem tw7218064713409430273:True:=trivial
theorem tw4085681121586874017:True:=trivial
theorem tw2174975361974874753:True:=trivial
theorem tw2167049416286897793:True:=trivial
theorem tw5005221492980128289:True:=trivial
theorem tw15319706457030524385:True:=trivial
theorem tw10550951166203125217:True:=trivial
theorem tw6603256513121278401:True:=trivial
theorem tw8844994471949061569:True:=trivial
theorem tw17018481525868314977:True:=trivial
theorem tw11581119696634513729:True:=trivial
theorem tw16703479476665852225:True:=trivial
theorem tw10161755551596887329:True:=trivial
theorem tw1045756631255853366:True:=trivial
theorem tw3426640831229465878:True:=trivial
theorem tw2285760957386033270:True:=trivial
theorem tw15004426685962072150:True:=trivial
theorem tw14029240349561689174:True:=trivial
theorem tw8937329105901164566:True:=trivial
theorem tw10194437079874429878:True:=trivial
theorem tw12991373939552046998:True:=trivial
theorem tw16728097364120407926:True:=trivial
theorem tw16545260826007310166:True:=trivial
theorem tw5334542035565981430:True:=trivial
theorem tw12035007688194514582:True:=trivial
theorem tw9352835848029013622:True:=trivial
theorem tw16322123943562681878:True:=trivial
theorem tw9667621716960272854:True:=trivial
theorem tw16067044469763317206:True:=trivial
theorem tw1102990618104153903:True:=trivial
theorem tw12090690402055162671:True:=trivial
theorem tw10875224212044570383:True:=trivial
theorem tw14462922907740682831:True:=trivial
theorem tw16531229174708390415:True:=trivial
theorem tw1951615564544658959:True:=trivial
theorem tw12885300728259595631:True:=trivial
theorem tw2208506276382367055:True:=trivial
theorem tw7248310365195876623:True:=trivial
theorem tw8127758807614490863:True:=trivial
theorem tw10006924327915135183:True:=trivial
theorem tw10377951082265085071:True:=trivial
theorem tw6767124060367085647:True:=trivial
theorem tw7016399975346376783:True:=trivial
theorem tw14845473743937428495:True:=trivial
theorem tw15138674331602808815:True:=trivial
theorem tw12457846647908732847:True:=trivial
theorem tw14144832988836588463:True:=trivial
theorem tw3242766614153956356:True:=trivial
theorem tw3788544009413579748:True:=trivial
theorem tw4652301199204751300:True:=trivial
theorem tw13996441247315895140:True:=trivial
theorem tw3620242592225737540:True:=trivial
theorem tw9264930978087999268:True:=trivial
theorem tw10039184581342017284:True:=trivial
theorem tw7890492470157726308:True:=trivial
theorem tw4974767416293423652:True:=trivial
theorem tw5658689780206419460:True:=trivial
theorem tw14321899391473663460:True:=trivial
theorem tw12772714639996081604:True:=trivial
theorem tw1170575971525675268:True:=trivial
theorem tw7357100720680989860:True:=trivial
theorem tw10730713288572421252:True:=trivial
theorem tw8681850714539524228:True:=trivial
theorem tw7541837152775635076:True:=trivial
theorem tw5602555681973995620:True:=trivial
theorem tw11450652573975038109:True:=trivial
theorem tw16834664618462368893:True:=trivial
theorem tw14476678862798231613:True:=trivial
theorem tw220750719894200253:True:=trivial
theorem tw6878915265798475645:True:=trivial
theorem tw9944808949233830749:True:=trivial
theorem tw12782770068248040189:True:=trivial
theorem tw8834401050106574557:True:=trivial
theorem tw4811747096528151229:True:=trivial
theorem tw6871238674448712349:True:=trivial
theorem tw13756636817340123805:True:=trivial
theorem tw11233919238142772861:True:=trivial
theorem tw1975298744839969373:True:=trivial
theorem tw5602463840379305501:True:=trivial
theorem tw8684654652379960829:True:=trivial
theorem tw4575695326083395069:True:=trivial
theorem tw13660556954169631165:True:=trivial
theorem tw11259451303462872413:True:=trivial
theorem tw3168963455630229821:True:=trivial
theorem tw3614910790088995101:True:=trivial
theorem tw514981349588225362:True:=trivial
theorem tw17645125873591869746:True:=trivial
theorem tw17335301296586746066:True:=trivial
theorem tw1738675982583772370:True:=trivial
theorem tw4945389484853802130:True:=trivial
theorem tw16396325389844529202:True:=trivial
theorem tw9566451356171883570:True:=trivial
theorem tw9699779508112824274:True:=trivial
theorem tw13287094104045583314:True:=trivial
theorem tw10950710161386892178:True:=trivial
theorem tw3594883931195420434:True:=trivial
theorem tw17209909561272622866:True:=trivial
theorem tw2524327656008561394:True:=trivial
theorem tw9298677323304302290:True:=trivial
theorem tw11926991961050417842:True:=trivial
theorem tw328408625360473746:True:=trivial
theorem tw13040979610349357714:True:=trivial
theorem tw4726729321882019474:True:=trivial
theorem tw2073837234478282322:True:=trivial
theorem tw1909311487538308626:True:=trivial
theorem tw5370034640039344626:True:=trivial
theorem tw1291934771022271890:True:=trivial
theorem tw2211850293406479483:True:=trivial
theorem tw5368705830231355483:True:=trivial
theorem tw6955577594543506427:True:=trivial
theorem tw14763184208339675099:True:=trivial
theorem tw17727323908048377819:True:=trivial
theorem tw10515266984320078779:True:=trivial
theorem tw6012588324690883419:True:=trivial
theorem tw17012769571646264123:True:=trivial
theorem tw4090264307211634491:True:=trivial
theorem tw9593823976526765883:True:=trivial
theorem tw1269854730944668443:True:=trivial
theorem tw9543320697957587707:True:=trivial
theorem tw10199755932783451899:True:=trivial
theorem tw13422181432623802075:True:=trivial
theorem tw7124667964858491419:True:=trivial
theorem tw15151479954788157979:True:=trivial
theorem tw13594021718664750555:True:=trivial
theorem tw11295793682845995451:True:=trivial
theorem tw878364888273438139:True:=trivial
theorem tw4167627945241236859:True:=trivial
theorem tw6295167318689616928:True:=trivial
theorem tw3336673103646926848:True:=trivial
theorem tw3156194923807982592:True:=trivial
theorem tw15159637908882912256:True:=trivial
theorem tw18420404139845586912:True:=trivial
theorem tw11238749014844249024:True:=trivial
theorem tw14821747415238327232:True:=trivial
theorem tw13919791250897239968:True:=trivial
theorem tw11404030011943196544:True:=trivial
theorem tw5296503189375744864:True:=trivial
theorem tw12398785923334331200:True:=trivial
theorem tw3537441327907909376:True:=trivial
theorem tw4429858191162196704:True:=trivial
theorem tw12393764178053652096:True:=trivial
theorem tw5596698882429417088:True:=trivial
theorem tw13694815646595874432:True:=trivial
theorem tw16351636114475209280:True:=trivial
theorem tw15867293885063543328:True:=trivial
theorem tw14864543255555104864:True:=trivial
theorem tw3448423200951225408:True:=trivial
theorem tw1792643111258354473:True:=trivial
theorem tw1018890898058941193:True:=trivial
theorem tw11450642706477928201:True:=trivial
theorem tw10604917743770204841:True:=trivial
theorem tw14673761094684177001:True:=trivial
theorem tw2677117402345114121:True:=trivial
theorem tw8743425146713211401:True:=trivial
theorem tw5536269156604848553:True:=trivial
theorem tw9088641468523205993:True:=trivial
theorem tw10604709042067439817:True:=trivial
theorem tw13606703957682310313:True:=trivial
theorem tw11192316502581619657:True:=trivial
theorem tw9720917613154483113:True:=trivial
theorem tw11885063790083589993:True:=trivial
theorem tw8681011158176509982:True:=trivial
theorem tw4206915698513915838:True:=trivial
theorem tw11086791384451063742:True:=trivial
theorem tw11059954756676185950:True:=trivial
theorem tw4172104339121260350:True:=trivial
theorem tw9953389233215866654:True:=trivial
theorem tw3708477497479634590:True:=trivial
theorem tw8846775612658862750:True:=trivial
theorem tw17357876954427990654:True:=trivial
theorem tw913052891536457246:True:=trivial
theorem tw15405791360410716670:True:=trivial
theorem tw4154401786284084638:True:=trivial
theorem tw9295674822609973630:True:=trivial
theorem tw7708686604004415838:True:=trivial
theorem tw12806650058459919678:True:=trivial
theorem tw12733867247097310430:True:=trivial
theorem tw703357616507267262:True:=trivial
theorem tw8207416715836500158:True:=trivial
theorem tw4585600911884801150:True:=trivial
theorem tw7542825126631688286:True:=trivial
theorem tw6769695742968015934:True:=trivial
theorem tw3204802238107770007:True:=trivial
theorem tw9389327184242174071:True:=trivial
theorem tw15187443567216979031:True:=trivial
theorem tw6850984352252464151:True:=trivial
theorem tw8553332477971748855:True:=trivial
theorem tw5317131858448174071:True:=trivial
theorem tw10151867714098120695:True:=trivial
theorem tw10510291188931090327:True:=trivial
theorem tw10428830586037692151:True:=trivial
theorem tw11849852239506775735:True:=trivial
theorem tw6197759038334083703:True:=trivial
theorem tw18056989015122686519:True:=trivial
theorem tw4422309144471434807:True:=trivial
theorem tw365190000692820503:True:=trivial
theorem tw5013326125084248567:True:=trivial
theorem tw7434540485702351319:True:=trivial
theorem tw6060004503667287447:True:=trivial
theorem tw11170087036398510391:True:=trivial
theorem tw3559781787080392983:True:=trivial
theorem tw13669737916226025751:True:=trivial
theorem tw8697661936221479159:True:=trivial
theorem tw18232910693010693335:True:=trivial
theorem tw3311758581004135607:True:=trivial
theorem tw11145840949069585740:True:=trivial
theorem tw15517084529864025420:True:=trivial
theorem tw1302625044353585452:True:=trivial
theorem tw6667805200010470668:True:=trivial
theorem tw9032844338993146124:True:=trivial
theorem tw15516815692832540940:True:=trivial
theorem tw3498156416452825324:True:=trivial
theorem tw6821870002852196588:True:=trivial
theorem tw9045769818194323596:True:=trivial
theorem tw12666798931447031884:True:=trivial
theorem tw3556307078085645356:True:=trivial
theorem tw16293055615842134988:True:=trivial
theorem tw2532469429092980684:True:=trivial
theorem tw378785708891145100:True:=trivial
theorem tw11480109193119005548:True:=trivial
theorem tw14445733429019481964:True:=trivial
theorem tw14506748501306328908:True:=trivial
theorem tw5053524508676322092:True:=trivial
theorem tw2223388931064014636:True:=trivial
theorem tw11632556685757012684:True:=trivial
theorem tw10375381283048769228:True:=trivial
theorem tw6691084764061779660:True:=trivial
theorem tw5811543946543227564:True:=trivial
theorem tw17375025085327454796:True:=trivial
theorem tw6124615313805391436:True:=trivial
theorem tw2449992442728353324:True:=trivial
theorem tw15551539198333221420:True:=trivial
theorem tw11404969470541756972:True:=trivial
theorem tw16150208513852973612:True:=trivial
theorem tw4178345650016533996:True:=trivial
theorem tw10725939161671276012:True:=trivial
theorem tw13564295236106155468:True:=trivial
theorem tw9292862072809639685:True:=trivial
theorem tw131493517470961317:True:=trivial
theorem tw17074055400721964613:True:=trivial
theorem tw8077403074666007013:True:=trivial
theorem tw15462452801470994853:True:=trivial
theorem tw12962186481031250309:True:=trivial
theorem tw17779251435807598949:True:=trivial
theorem tw1841199297708797253:True:=trivial
theorem tw15125964032769581285:True:=trivial
theorem tw8652025502495236293:True:=trivial
theorem tw12294292005524675749:True:=trivial
theorem tw7326912593073105029:True:=trivial
theorem tw14730231281734768677:True:=trivial
theorem tw15537281616751929349:True:=trivial
theorem tw15055438261190778885:True:=trivial
theorem tw6813738074527470533:True:=trivial
theorem tw14981807298105916325:True:=trivial
theorem tw16138363601545646949:True:=trivial
theorem tw14021347273345899546:True:=trivial
theorem tw7213026245454845882:True:=trivial
theorem tw5768824261355455418:True:=trivial
theorem tw1335838870215537562:True:=trivial
theorem tw15819296736813464378:True:=trivial
theorem tw3895817547812960058:True:=trivial
theorem tw5034108109469839098:True:=trivial
theorem tw13082499341195427546:True:=trivial
theorem tw2167673684664899226:True:=trivial
theorem tw17326467592571831930:True:=trivial
theorem tw13520414444198606298:True:=trivial
theorem tw17595619189984741818:True:=trivial
theorem tw9058570458711674202:True:=trivial
theorem tw14918822229840407834:True:=trivial
theorem tw12637293656526521562:True:=trivial
theorem tw10968691362798844090:True:=trivial
theorem tw1566618287183495322:True:=trivial
theorem tw10728136064381957242:True:=trivial
theorem tw12110579848346711162:True:=trivial
theorem tw13244449043255244858:True:=trivial
theorem tw940724487064154947:True:=trivial
theorem tw2994961385883965091:True:=trivial
theorem tw7993966156427608739:True:=trivial
theorem tw6554543094870103715:True:=trivial
theorem tw172616786041186883:True:=trivial
theorem tw16915258044283217411:True:=trivial
theorem tw18251469861883103715:True:=trivial
theorem tw16902746619801587139:True:=trivial
theorem tw16868833456588010947:True:=trivial
theorem tw13691254120257854851:True:=trivial
theorem tw17854276928048842051:True:=trivial
theorem tw10306312567634706755:True:=trivial
theorem tw9538025576324511043:True:=trivial
theorem tw15354398715060242723:True:=trivial
theorem tw7582027358991420579:True:=trivial
theorem tw9670632866163738787:True:=trivial
theorem tw13333136986100504707:True:=trivial
theorem tw17455080634241684579:True:=trivial
theorem tw4385345392525036643:True:=trivial
theorem tw17416337538840280131:True:=trivial
theorem tw186042841794214979:True:=trivial
theorem tw10098676293163579459:True:=trivial
theorem tw2458568683709623235:True:=trivial
theorem tw7730229840239173571:True:=trivial
theorem tw8511176809106281379:True:=trivial
theorem tw1340811791807159656:True:=trivial
theorem tw17421196764575767880:True:=trivial
theorem tw11524208637543213352:True:=trivial
theorem tw9914913773831524584:True:=trivial
theorem tw9377311648048876744:True:=trivial
theorem tw7835056241838481576:True:=trivial
theorem tw5654258412831210600:True:=trivial
theorem tw14977941449755070536:True:=trivial
theorem tw13864961662284019624:True:=trivial
theorem tw9882905980682689320:True:=trivial
theorem tw15897656235247761192:True:=trivial
theorem tw17443702608200596232:True:=trivial
theorem tw11660843917182732968:True:=trivial
theorem tw2632955386650993320:True:=trivial
theorem tw18295602864507124785:True:=trivial
theorem tw740056542802941969:True:=trivial
theorem tw10813925431876926481:True:=trivial
theorem tw498545991481139185:True:=trivial
theorem tw12305616434886238161:True:=trivial
theorem tw8089454237089315793:True:=trivial
theorem tw10344138770215027633:True:=trivial
theorem tw5913140410239069073:True:=trivial
theorem tw10736762176077792017:True:=trivial
theorem tw18061245869743200017:True:=trivial
theorem tw6265315681473470161:True:=trivial
theorem tw1323558270199582385:True:=trivial
theorem tw8255678275007236785:True:=trivial
theorem tw10143783164158589585:True:=trivial
theorem tw9645774629162130033:True:=trivial
theorem tw12125841546565470641:True:=trivial
theorem tw5780913962509566385:True:=trivial
theorem tw151206152587539889:True:=trivial
theorem tw10962431679974720945:True:=trivial
theorem tw6529573654529091953:True:=trivial
theorem tw256955943378561393:True:=trivial
theorem tw6226374148120114545:True:=trivial
theorem tw13189060631023646033:True:=trivial
theorem tw5097903815546456369:True:=trivial
theorem tw11354615423413606641:True:=trivial
theorem tw16249204521902723366:True:=trivial
theorem tw16328646383707923686:True:=trivial
theorem tw1534753250287252678:True:=trivial
theorem tw17712424729252071558:True:=trivial
theorem tw2506342057286393926:True:=trivial
theorem tw16382066921553050534:True:=trivial
theorem tw9341893575033728902:True:=trivial
theorem tw4506670141441663814:True:=trivial
theorem tw3946341477651180326:True:=trivial
theorem tw13676887921220404998:True:=trivial
theorem tw8381966514573024998:True:=trivial
theorem tw18075057152938136262:True:=trivial
theorem tw4414071563861511782:True:=trivial
theorem tw13252954832018264582:True:=trivial
theorem tw18207878730979013030:True:=trivial
theorem tw15512530499232490239:True:=trivial
theorem tw18125005407807998719:True:=trivial
theorem tw15851184135814828799:True:=trivial
theorem tw8537374437608012511:True:=trivial
theorem tw5417766422186361407:True:=trivial
theorem tw15568507292959119903:True:=trivial
theorem tw6519405479146284575:True:=trivial
theorem tw9760950210780056927:True:=trivial
theorem tw12100337449447670111:True:=trivial
theorem tw5474509162889464095:True:=trivial
theorem tw2947987283444947199:True:=trivial
theorem tw16770918458843589823:True:=trivial
theorem tw6318825018981999711:True:=trivial
theorem tw565853853397978111:True:=trivial
theorem tw12407002096789710815:True:=trivial
theorem tw11245424063451314079:True:=trivial
theorem tw18323401403038320479:True:=trivial
theorem tw9180186999591498591:True:=trivial
theorem tw14173307565056540628:True:=trivial
theorem tw11799529169017356244:True:=trivial
theorem tw8485880292693060532:True:=trivial
theorem tw14170209471868875572:True:=trivial
theorem tw15265181562418430772:True:=trivial
theorem tw10934177046009106164:True:=trivial
theorem tw7509858831803440852:True:=trivial
theorem tw10702633465740788340:True:=trivial
theorem tw13869057204224428628:True:=trivial
theorem tw1258365968462128660:True:=trivial
theorem tw11500074007304331700:True:=trivial
theorem tw13665977921951812020:True:=trivial
theorem tw10910906987802480020:True:=trivial
theorem tw16041480896610837908:True:=trivial
theorem tw8186324387459352916:True:=trivial
theorem tw10623406772078088532:True:=trivial
theorem tw15778289943747781940:True:=trivial
theorem tw2840984409467975924:True:=trivial
theorem tw981119098347096276:True:=trivial
theorem tw16813881502704191700:True:=trivial
theorem tw14146577998631539860:True:=trivial
theorem tw15012921966977094804:True:=trivial
theorem tw15253217361459601524:True:=trivial
theorem tw3698786766713942100:True:=trivial
theorem tw8538537950374182996:True:=trivial
theorem tw11819091716812990509:True:=trivial
theorem tw17398045006406757357:True:=trivial
theorem tw16954089921520075757:True:=trivial
theorem tw9645517648156371917:True:=trivial
theorem tw4625157489361512365:True:=trivial
theorem tw17323408146621504397:True:=trivial
theorem tw8095712023437186893:True:=trivial
theorem tw13728984339073170221:True:=trivial
theorem tw16922350320271157005:True:=trivial
theorem tw18056718470013152013:True:=trivial
theorem tw17324923439925702381:True:=trivial
theorem tw4099349513228181229:True:=trivial
theorem tw8431381946867865261:True:=trivial
theorem tw15530205792624931437:True:=trivial
theorem tw4373820836498993709:True:=trivial
theorem tw934819543909657101:True:=trivial
theorem tw6626033601884718605:True:=trivial
theorem tw2687035365172641261:True:=trivial
theorem tw11523406252567779821:True:=trivial
theorem tw2661946731579791853:True:=trivial
theorem tw2826540780347963885:True:=trivial
theorem tw3735530408451247501:True:=trivial
theorem tw14644455919733967245:True:=trivial
theorem tw1186624147850629485:True:=trivial
theorem tw10383619604617657677:True:=trivial
theorem tw1179849687003785517:True:=trivial
theorem tw7162892659144957197:True:=trivial
theorem tw2584896036682247405:True:=trivial
theorem tw6058708986828411117:True:=trivial
theorem tw7214745190337096877:True:=trivial
theorem tw18051799028590649517:True:=trivial
theorem tw12798767836170951010:True:=trivial
theorem tw15178570978180252962:True:=trivial
theorem tw10476451788327795874:True:=trivial
theorem tw1692064114243147938:True:=trivial
theorem tw354799942741750786:True:=trivial
theorem tw4595479806389999522:True:=trivial
theorem tw13119789563725073282:True:=trivial
theorem tw17426789987549017954:True:=trivial
theorem tw12291765913284380514:True:=trivial
theorem tw4928483044364641090:True:=trivial
theorem tw15325050651292620514:True:=trivial
theorem tw15924162709447568098:True:=trivial
theorem tw3845409808772710082:True:=trivial
theorem tw4021044629348508322:True:=trivial
theorem tw17637767480907397698:True:=trivial
theorem tw13703265996976282050:True:=trivial
theorem tw3534998852356107650:True:=trivial
theorem tw18029599793134994571:True:=trivial
theorem tw13632334465124342859:True:=trivial
theorem tw11431473036279289899:True:=trivial
theorem tw10115269721318348747:True:=trivial
theorem tw6341364129887463275:True:=trivial
theorem tw1081143202170738539:True:=trivial
theorem tw3051743459883807563:True:=trivial
theorem tw12170704399574997803:True:=trivial
theorem tw17116724483885921995:True:=trivial
theorem tw16130417636471298603:True:=trivial
theorem tw15311061280484691499:True:=trivial
theorem tw16663394077314979275:True:=trivial
theorem tw7887441824685989131:True:=trivial
theorem tw14608903267514594571:True:=trivial
theorem tw3981914680100050896:True:=trivial
theorem tw12719579967266370512:True:=trivial
theorem tw7853392697276125072:True:=trivial
theorem tw16039184301513569104:True:=trivial
theorem tw18198878289940358928:True:=trivial
theorem tw9762992653386218160:True:=trivial
theorem tw470500631458074224:True:=trivial
theorem tw13430941580529008208:True:=trivial
theorem tw2807479354621354480:True:=trivial
theorem tw1694827547599349136:True:=trivial
theorem tw14370735335068884176:True:=trivial
theorem tw10926941790937252048:True:=trivial
theorem tw12791430514357171312:True:=trivial
theorem tw2342865370518358128:True:=trivial
theorem tw13980247914681108560:True:=trivial
theorem tw6941057209553516592:True:=trivial
theorem tw8119311588918991920:True:=trivial
theorem tw13002579364673506041:True:=trivial
theorem tw3204459843570080505:True:=trivial
theorem tw3939440711103309529:True:=trivial
theorem tw7630069204418333209:True:=trivial
theorem tw10720363610324718105:True:=trivial
theorem tw2401748937504951801:True:=trivial
theorem tw15828082604717705721:True:=trivial
theorem tw13278705008122019289:True:=trivial
theorem tw10616251446564726137:True:=trivial
theorem tw1326291805967866201:True:=trivial
theorem tw11031772069816049817:True:=trivial
theorem tw5098983953264889913:True:=trivial
theorem tw16698840316185768985:True:=trivial
theorem tw10422931859931533273:True:=trivial
theorem tw6736394285857908697:True:=trivial
theorem tw17150161323456499545:True:=trivial
theorem tw8063538285264010073:True:=trivial
end PySem.W.Fast
open PySem PySem.W PyProof.Rows
set_option maxRecDepth 100000 in
set_option maxHeartbeats 0 in
theorem PySem.Challenge.cw_halvedpictures_k21_plans_told_holds : PySem.Challenge.rw_halvedpictures_k21_plans_told.Holds := by
 w_on;o_law;k_head;(case hw=>w_witness2)
 k_fill
 refine K21.walk (l:=PySem.Challenge.rw_halvedpictures_k21_plans_told) rfl rfl (fun w h Y=>PySem.W.kIn_of Y) ?F
 case F=>
  intro w mg fa h KX G hmg
  refine' K21.all_mk KX G hmg ?aC_Guessed ?pg_Guessed ?hd_Guessed ?po_Guessed ?sa_Guessed ?mk_Guessed ?kc_Guessed ?in_Guessed ?aC_Halves ?pg_Halves ?hd_Halves ?po_Halves ?sa_Halves ?mk_Halves ?kc_Halves ?in_Halves ?aC_Leaning ?pg_Leaning ?hd_Leaning ?po_Leaning ?sa_Leaning ?mk_Leaning ?kc_Leaning ?in_Leaning ?aC_Plan ?pg_Plan ?hd_Plan ?po_Plan ?sa_Plan ?mk_Plan ?kc_Plan ?aC_Sums ?pg_Sums ?hd_Sums ?po_Sums ?sa_Sums ?mk_Sums ?kc_Sums ?in_Sums ?n_Plan_chosen ?n_Plan_corners ?n_Plan_letters ?q_ALONG_PILLARS ?lk_ALONG_PILLARS ?q_ALONG_ROWS ?lk_ALONG_ROWS ?y_bs ?y_is ?y_ns ?y_ss ?y_ls ?y_ts ?y_ds ?a0 ?l0 ?c0 ?k0 ?a1 ?l1 ?c1 ?k1 ?a2 ?l2 ?c2 ?k2 ?a3 ?l3 ?c3 ?k3 ?a4 ?l4 ?c4 ?k4 ?a5 ?l5 ?c5 ?k5 ?a6 ?l6 ?c6 ?k6 ?a7 ?l7 ?c7 ?k7 ?a8 ?i8 ?l8 ?c8 ?k8 ?a9 ?i9 ?l9 ?c9 ?k9 ?a10 ?i10 ?l10 ?c10 ?k10 ?a11 ?i11 ?l11 ?c11 ?k11 ?a12 ?i12 ?l12 ?c12 ?k12 ?a13 ?i13 ?l13 ?c13 ?k13 ?a14 ?i14 ?l14 ?c14 ?k14 ?a15 ?i15 ?l15 ?c15 ?k15 ?a16 ?i16 ?l16 ?c16 ?k16 ?a17 ?i17 ?l17 ?c17 ?k17 ?a18 ?i18 ?l18 ?c18 ?k18 ?a19 ?i19 ?l19 ?c19 ?k19 ?a20 ?i20 ?l20 ?c20 ?k20 ?a21 ?i21 ?l21 ?c21 ?k21 ?a22 ?i22 ?l22 ?c22 ?k22 ?a23 ?i23 ?l23 ?c23 ?k23 ?a24 ?l24 ?c24 ?k24 ?a25 ?l25 ?c25 ?k25 ?a26 ?l26 ?c26 ?k26 ?a27 ?l27 ?c27 ?k27 ?a28 ?l28 ?c28 ?k28 ?a29 ?i29 ?l29 ?c29 ?k29 ?a30 ?i30 ?l30 ?c30 ?k30 ?a31 ?i31 ?l31 ?c31 ?k31 ?a32 ?i32 ?l32 ?c32 ?k32 ?a33 ?i33 ?l33 ?c33 ?k33 ?a34 ?i34 ?l34 ?c34 ?k34 ?a35 ?l35 ?c35 ?k35 ?a36 ?l36 ?c36 ?k36 ?a37 ?l37 ?c37 ?k37 ?a38 ?l38 ?c38 ?k38 ?a39 ?l39 ?c39 ?k39 ?a40 ?i40 ?l40 ?c40 ?k40 ?a41 ?i41 ?l41 ?c41 ?k41 ?a42 ?i42 ?l42 ?c42 ?k42 ?a43 ?i43 ?l43 ?c43 ?k43 ?a44 ?i44 ?l44 ?c44 ?k44 ?a45 ?i45 ?l45 ?c45 ?k45 ?a46 ?i46 ?l46 ?c46 ?k46 ?a47 ?i47 ?l47 ?c47 ?k47 ?a48 ?i48 ?l48 ?c48 ?k48 ?a49 ?i49 ?l49 ?c49 ?k49 ?a50 ?i50 ?l50 ?c50 ?k50 ?a51 ?l51 ?c51 ?k51 ?a52 ?l52 ?c52 ?k52 ?a53 ?l53 ?c53 ?k53 ?a54 ?l54 ?c54 ?k54 ?a55 ?l55 ?c55 ?k55 ?a56 ?l56 ?c56 ?k56 ?a57 ?l57 ?c57 ?k57 ?a58 ?l58 ?c58 ?k58 ?a59 ?l59 ?c59 ?k59 ?a60 ?l60 ?c60 ?k60 ?a61 ?l61 ?c61 ?k61 ?a62 ?l62 ?c62 ?k62 ?a63 ?l63 ?c63 ?k63 ?a64 ?l64 ?c64 ?k64 ?e_Halves_halves ?e_Halves_back ?e_Halves_sums_of ?e_Halves_row_of ?e_Leaning_sum_of_pair ?e_Leaning_sum_of_lone ?e_Leaning_pair_of ?e_Leaning_lone_of ?e_Leaning_halves ?e_Leaning_back ?e_Leaning_sums_of ?e_Leaning_row_of ?e_Sums_halves ?e_Sums_back ?e_Sums_parted ?e_Sums_joined ?e_Sums_sums_of ?e_Sums_row_of ?e_Sums_sum_of_pair ?e_Sums_sum_of_lone ?e_Sums_pair_of ?e_Sums_lone_of ?q_MOST_NUMBER ?q_MOST_PLACES ?q_MOST_SIDE ?z_all ?z_bool ?z_int ?z_isinstance ?z_len ?z_list ?z_max ?z_min ?z_range ?z_repr ?z_reversed ?z_str ?z_tuple ?z_zip ?y_bb ?y_bi ?y_bl ?y_bt ?y_ib ?y_ii ?y_il ?y_it ?y_nb ?y_ni ?y_nl ?y_nt ?y_sb ?y_si ?y_sl ?y_st ?y_lb ?y_li ?y_ll ?y_lt ?y_tb ?y_ti ?y_tl ?y_tt ?y_db ?y_di ?y_dl ?y_dt
  (case aC_Guessed=>k_is)
  (case pg_Guessed=>k_is)
  (case hd_Guessed=>k_is)
  (case po_Guessed=>k_is)
  (case sa_Guessed=>k_is)
  (case mk_Guessed=>k_is)
  (case kc_Guessed=>k_is)
  (case in_Guessed=>k_is)
  (case aC_Halves=>k_is)
  (case pg_Halves=>k_is)
  (case hd_Halves=>k_is)
  (case po_Halves=>k_is)
  (case sa_Halves=>k_is)
  (case mk_Halves=>k_is)
  (case kc_Halves=>k_is)
  (case in_Halves=>k_is)
  (case aC_Leaning=>k_is)
  (case pg_Leaning=>k_is)
  (case hd_Leaning=>k_is)
  (case po_Leaning=>k_is)
  (case sa_Leaning=>k_is)
  (case mk_Leaning=>k_is)
  (case kc_Leaning=>k_is)
  (case in_Leaning=>k_is)
  (case aC_Plan=>k_is)
  (case pg_Plan=>k_is)
  (case hd_Plan=>k_is)
  (case po_Plan=>k_is)
  (case sa_Plan=>k_is)
  (case mk_Plan=>k_is)
  (case kc_Plan=>k_is)
  (case aC_Sums=>k_is)
  (case pg_Sums=>k_is)
  (case hd_Sums=>k_is)
  (case po_Sums=>k_is)
  (case sa_Sums=>k_is)
  (case mk_Sums=>k_is)
  (case kc_Sums=>k_is)
  (case in_Sums=>k_is)
  (case n_Plan_chosen=>k_is)
  (case n_Plan_corners=>k_is)
  (case n_Plan_letters=>k_is)
  (case q_ALONG_PILLARS=>k_is)
  (case lk_ALONG_PILLARS=>k_is)
  (case q_ALONG_ROWS=>k_is)
  (case lk_ALONG_ROWS=>k_is)
  (case y_bs=>kit_is)
  (case y_is=>kit_is)
  (case y_ns=>kit_is)
  (case y_ss=>kit_is)
  (case y_ls=>kit_is)
  (case y_ts=>kit_is)
  (case y_ds=>kit_is)
  (case a0=>k_is)
  (case l0=>k_is)
  (case c0=>k_is)
  (case k0=>k_is)
  (case a1=>k_is)
  (case l1=>k_is)
  (case c1=>k_is)
  (case k1=>k_is)
  (case a2=>k_is)
  (case l2=>k_is)
  (case c2=>k_is)
  (case k2=>k_is)
  (case a3=>k_is)
  (case l3=>k_is)
  (case c3=>k_is)
  (case k3=>k_is)
  (case a4=>k_is)
  (case l4=>k_is)
  (case c4=>k_is)
  (case k4=>k_is)
  (case a5=>k_is)
  (case l5=>k_is)
  (case c5=>k_is)
  (case k5=>k_is)
  (case a6=>k_is)
  (case l6=>k_is)
  (case c6=>k_is)
  (case k6=>k_is)
  (case a7=>k_is)
  (case l7=>k_is)
  (case c7=>k_is)
  (case k7=>k_is)
  (case a8=>k_is)
  (case i8=>k_is)
  (case l8=>k_is)
  (case c8=>k_is)
  (case k8=>k_is)
  (case a9=>k_is)
  (case i9=>k_is)
  (case l9=>k_is)
  (case c9=>k_is)
  (case k9=>k_is)
  (case a10=>k_is)
  (case i10=>k_is)
  (case l10=>k_is)
  (case c10=>k_is)
  (case k10=>k_is)
  (case a11=>k_is)
  (case i11=>k_is)
  (case l11=>k_is)
  (case c11=>k_is)
  (case k11=>k_is)
  (case a12=>k_is)
  (case i12=>k_is)
  (case l12=>k_is)
  (case c12=>k_is)
  (case k12=>k_is)
  (case a13=>k_is)
  (case i13=>k_is)
  (case l13=>k_is)
  (case c13=>k_is)
  (case k13=>k_is)
  (case a14=>k_is)
  (case i14=>k_is)
  (case l14=>k_is)
  (case c14=>k_is)
  (case k14=>k_is)
  (case a15=>k_is)
  (case i15=>k_is)
  (case l15=>k_is)
  (case c15=>k_is)
  (case k15=>k_is)
  (case a16=>k_is)
  (case i16=>k_is)
  (case l16=>k_is)
  (case c16=>k_is)
  (case k16=>k_is)
  (case a17=>k_is)
  (case i17=>k_is)
  (case l17=>k_is)
  (case c17=>k_is)
  (case k17=>k_is)
  (case a18=>k_is)
  (case i18=>k_is)
  (case l18=>k_is)
  (case c18=>k_is)
  (case k18=>k_is)
  (case a19=>k_is)
  (case i19=>k_is)
  (case l19=>k_is)
  (case c19=>k_is)
  (case k19=>k_is)
  (case a20=>k_is)
  (case i20=>k_is)
  (case l20=>k_is)
  (case c20=>k_is)
  (case k20=>k_is)
  (case a21=>k_is)
  (case i21=>k_is)
  (case l21=>k_is)
  (case c21=>k_is)
  (case k21=>k_is)
  (case a22=>k_is)
  (case i22=>k_is)
  (case l22=>k_is)
  (case c22=>k_is)
  (case k22=>k_is)
  (case a23=>k_is)
  (case i23=>k_is)
  (case l23=>k_is)
  (case c23=>k_is)
  (case k23=>k_is)
  (case a24=>k_is)
  (case l24=>k_is)
  (case c24=>k_is)
  (case k24=>k_is)
  (case a25=>k_is)
  (case l25=>k_is)
  (case c25=>k_is)
  (case k25=>k_is)
  (case a26=>k_is)
  (case l26=>k_is)
  (case c26=>k_is)
  (case k26=>k_is)
  (case a27=>k_is)
  (case l27=>k_is)
  (case c27=>k_is)
  (case k27=>k_is)
  (case a28=>k_is)
  (case l28=>k_is)
  (case c28=>k_is)
  (case k28=>k_is)
  (case a29=>k_is)
  (case i29=>k_is)
  (case l29=>k_is)
  (case c29=>k_is)
  (case k29=>k_is)
  (case a30=>k_is)
  (case i30=>k_is)
  (case l30=>k_is)
  (case c30=>k_is)
  (case k30=>k_is)
  (case a31=>k_is)
  (case i31=>k_is)
  (case l31=>k_is)
  (case c31=>k_is)
  (case k31=>k_is)
  (case a32=>k_is)
  (case i32=>k_is)
  (case l32=>k_is)
  (case c32=>k_is)
  (case k32=>k_is)
  (case a33=>k_is)
  (case i33=>k_is)
  (case l33=>k_is)
  (case c33=>k_is)
  (case k33=>k_is)
  (case a34=>k_is)
  (case i34=>k_is)
  (case l34=>k_is)
  (case c34=>k_is)
  (case k34=>k_is)
  (case a35=>k_is)
  (case l35=>k_is)
  (case c35=>k_is)
  (case k35=>k_is)
  (case a36=>k_is)
  (case l36=>k_is)
  (case c36=>k_is)
  (case k36=>k_is)
  (case a37=>k_is)
  (case l37=>k_is)
  (case c37=>k_is)
  (case k37=>k_is)
  (case a38=>k_is)
  (case l38=>k_is)
  (case c38=>k_is)
  (case k38=>k_is)
  (case a39=>k_is)
  (case l39=>k_is)
  (case c39=>k_is)
  (case k39=>k_is)
  (case a40=>k_is)
  (case i40=>k_is)
  (case l40=>k_is)
  (case c40=>k_is)
  (case k40=>k_is)
  (case a41=>k_is)
  (case i41=>k_is)
  (case l41=>k_is)
  (case c41=>k_is)
  (case k41=>k_is)
  (case a42=>k_is)
  (case i42=>k_is)
  (case l42=>k_is)
  (case c42=>k_is)
  (case k42=>k_is)
  (case a43=>k_is)
  (case i43=>k_is)
  (case l43=>k_is)
  (case c43=>k_is)
  (case k43=>k_is)
  (case a44=>k_is)
  (case i44=>k_is)
  (case l44=>k_is)
  (case c44=>k_is)
  (case k44=>k_is)
  (case a45=>k_is)
  (case i45=>k_is)
  (case l45=>k_is)
  (case c45=>k_is)
  (case k45=>k_is)
  (case a46=>k_is)
  (case i46=>k_is)
  (case l46=>k_is)
  (case c46=>k_is)
  (case k46=>k_is)
  (case a47=>k_is)
  (case i47=>k_is)
  (case l47=>k_is)
  (case c47=>k_is)
  (case k47=>k_is)
  (case a48=>k_is)
  (case i48=>k_is)
  (case l48=>k_is)
  (case c48=>k_is)
  (case k48=>k_is)
  (case a49=>k_is)
  (case i49=>k_is)
  (case l49=>k_is)
  (case c49=>k_is)
  (case k49=>k_is)
  (case a50=>k_is)
  (case i50=>k_is)
  (case l50=>k_is)
  (case c50=>k_is)
  (case k50=>k_is)
  (case a51=>k_is)
  (case l51=>k_is)
  (case c51=>k_is)
  (case k51=>k_is)
  (case a52=>k_is)
  (case l52=>k_is)
  (case c52=>k_is)
  (case k52=>k_is)
  (case a53=>k_is)
  (case l53=>k_is)
  (case c53=>k_is)
  (case k53=>k_is)
  (case a54=>k_is)
  (case l54=>k_is)
  (case c54=>k_is)
  (case k54=>k_is)
  (case a55=>k_is)
  (case l55=>k_is)
  (case c55=>k_is)
  (case k55=>k_is)
  (case a56=>k_is)
  (case l56=>k_is)
  (case c56=>k_is)
  (case k56=>k_is)
  (case a57=>k_is)
  (case l57=>k_is)
  (case c57=>k_is)
  (case k57=>k_is)
  (case a58=>k_is)
  (case l58=>k_is)
  (case c58=>k_is)
  (case k58=>k_is)
  (case a59=>k_is)
  (case l59=>k_is)
  (case c59=>k_is)
  (case k59=>k_is)
  (case a60=>k_is)
  (case l60=>k_is)
  (case c60=>k_is)
  (case k60=>k_is)
  (case a61=>k_is)
  (case l61=>k_is)
  (case c61=>k_is)
  (case k61=>k_is)
  (case a62=>k_is)
  (case l62=>k_is)
  (case c62=>k_is)
  (case k62=>k_is)
  (case a63=>k_is)
  (case l63=>k_is)
  (case c63=>k_is)
  (case k63=>k_is)
  (case a64=>k_is)
  (case l64=>k_is)
  (case c64=>k_is)
  (case k64=>k_is)
  (case e_Halves_halves=>k_is)
  (case e_Halves_back=>k_is)
  (case e_Halves_sums_of=>k_is)
  (case e_Halves_row_of=>k_is)
  (case e_Leaning_sum_of_pair=>k_is)
  (case e_Leaning_sum_of_lone=>k_is)
  (case e_Leaning_pair_of=>k_is)
  (case e_Leaning_lone_of=>k_is)
  (case e_Leaning_halves=>k_is)
  (case e_Leaning_back=>k_is)
  (case e_Leaning_sums_of=>k_is)
  (case e_Leaning_row_of=>k_is)
  (case e_Sums_halves=>k_is)
  (case e_Sums_back=>k_is)
  (case e_Sums_parted=>k_is)
  (case e_Sums_joined=>k_is)
  (case e_Sums_sums_of=>k_is)
  (case e_Sums_row_of=>k_is)
  (case e_Sums_sum_of_pair=>k_is)
  (case e_Sums_sum_of_lone=>k_is)
  (case e_Sums_pair_of=>k_is)
  (case e_Sums_lone_of=>k_is)
  (case q_MOST_NUMBER=>k_is)
  (case q_MOST_PLACES=>k_is)
  (case q_MOST_SIDE=>k_is)
  (case z_all=>k_is)
  (case z_bool=>k_is)
  (case z_int=>k_is)
  (case z_isinstance=>k_is)
  (case z_len=>k_is)
  (case z_list=>k_is)
  (case z_max=>k_is)
  (case z_min=>k_is)
  (case z_range=>k_is)
  (case z_repr=>k_is)
  (case z_reversed=>k_is)
  (case z_str=>k_is)
  (case z_tuple=>k_is)
  (case z_zip=>k_is)
  (case y_bb=>kit_is)
  (case y_bi=>kit_is)
  (case y_bl=>kit_is)
  (case y_bt=>kit_is)
  (case y_ib=>kit_is)
  (case y_ii=>kit_is)
  (case y_il=>kit_is)
  (case y_it=>kit_is)
  (case y_nb=>kit_is)
  (case y_ni=>kit_is)
  (case y_nl=>kit_is)
  (case y_nt=>kit_is)
  (case y_sb=>kit_is)
  (case y_si=>kit_is)
  (case y_sl=>kit_is)
  (case y_st=>kit_is)
  (case y_lb=>kit_is)
  (case y_li=>kit_is)
  (case y_ll=>kit_is)
  (case y_lt=>kit_is)
  (case y_tb=>kit_is)
  (case y_ti=>kit_is)
  (case y_tl=>kit_is)
  (case y_tt=>kit_is)
  (case y_db=>kit_is)
  (case y_di=>kit_is)
  (case y_dl=>kit_is)
  (case y_dt=>kit_is)
