import PyProof.Rows.All
import Wide.All
import OpenK.AllK
import Wide.FinOn
import Lean
import KE.KRevIter
import KE.KIntText
import PyProof.NsDelKeeps
import PyProof.NeKinds
import PyProof.EqAt
import PyProof.EqKinds
import PyProof.TupleCall
import KE.KPairComp
import PySem.Challenge.RW_halvedpictures_k04_texts_written_and_rea
set_option Elab.async false
set_option linter.all false
set_option maxRecDepth 100000
namespace L2
open PySem PySem.Spec PyProof.Rows
abbrev Key:=Sum Int Str
def wJ:Key→Value→Bool
 | .inl k,v=>Value.isInt k v
 | .inr x,v=>Value.isStrOf x v
def CD (w:World):Key→Int
 | .inl k=>hashInt k
 | .inr x=>hashStr w x
theorem bH:∀ {k:Key} {v:Value},wJ k v=true→(∃ i t,k=Sum.inl i∧v=Value.int i t)∨(∃ x t,k=Sum.inr x∧v=Value.str x t)
 | .inl i,v,h=>by
  obtain⟨t,e⟩:=Value.isInt_shape (k:=i) (v:=v) h
  exact .inl ⟨i,t,rfl,e⟩
 | .inr x,v,h=>by
  obtain⟨t,e⟩:=Value.isStrOf_shape (x:=x) (v:=v) h
  exact .inr ⟨x,t,rfl,e⟩
theorem yK (a b:Int):decide ((Sum.inl a:Key)=Sum.inl b)=(a == b):=by
 by_cases e:a=b
 ·subst e;simp
 ·have h:¬ (Sum.inl a:Key)=Sum.inl b:=fun q=>e (Sum.inl.inj q)
  rw[decide_eq_false h]
  exact(beq_eq_false_iff_ne.mpr e).symm
theorem yH (a b:Str):decide ((Sum.inr a:Key)=Sum.inr b)=decide (a=b):=by
 by_cases e:a=b
 ·subst e;simp
 ·have h:¬ (Sum.inr a:Key)=Sum.inr b:=fun q=>e (Sum.inr.inj q)
  rw[decide_eq_false h,decide_eq_false e]
theorem yJ (a:Int) (b:Str):decide ((Sum.inl a:Key)=Sum.inr b)=false:=decide_eq_false (fun q=>nomatch q)
theorem yI (a:Str) (b:Int):decide ((Sum.inr a:Key)=Sum.inl b)=false:=decide_eq_false (fun q=>nomatch q)
def jI (prog:Program) (w:World):PySem.KeyKind prog w Key where
 is:=wJ
 hash:=CD w
 inj:=fun v a b ha hb=>by
  rcases bH ha with ⟨i,t,rfl,rfl⟩ | ⟨x,t,rfl,rfl⟩
  ·rcases bH hb with ⟨j,u,rfl,e⟩ | ⟨y,u,rfl,e⟩
   ·injection e with e1 _;rw[e1]
   ·exact nomatch e
  ·rcases bH hb with ⟨j,u,rfl,e⟩ | ⟨y,u,rfl,e⟩
   ·exact nomatch e
   ·injection e with e1 _;rw[e1]
 byValue:=fun k v h=>by
  rcases bH h with ⟨i,t,rfl,rfl⟩ | ⟨x,t,rfl,rfl⟩ <;> rfl
 pyHash:=fun hv h=>by
  rcases bH hv with ⟨i,t,rfl,rfl⟩ | ⟨x,t,rfl,rfl⟩
  ·exact wpAny_pyHash_int h
  ·exact wpAny_pyHash_str h
 eqBool:=fun hu hv h=>by
  rcases bH hu with ⟨i,t,rfl,rfl⟩ | ⟨x,t,rfl,rfl⟩
  ·rcases bH hv with ⟨j,u,rfl,rfl⟩ | ⟨y,u,rfl,rfl⟩
   ·rw[yK] at h;exact wpAny_eqBool_int h
   ·rw[yJ] at h;exact SeqAt.EqAt.int_str i t y u _ _ _ _ h
  ·rcases bH hv with ⟨j,u,rfl,rfl⟩ | ⟨y,u,rfl,rfl⟩
   ·rw[yI] at h;exact SeqAt.EqAt.str_int x t j u _ _ _ _ h
   ·rw[yH] at h;exact wpAny_eqBool_str h
 «strs»:=fun k x t v h=>by
  rcases bH h with ⟨i,u,rfl,e⟩ | ⟨y,u,rfl,e⟩
  ·exact nomatch e
  ·injection e with e1 _
   subst e1
   cases v <;> rfl
end L2
namespace L2
open PySem PySem.Spec PyProof.Rows
inductive V where
 | non | bl (b:Bool) | int (i:Int) | str (x:Str) | byt (b:Array UInt8) | flt (b:UInt64) | ref (a:Addr) | ty (n:String)
 deriving DecidableEq
def RelV:V→Value→Prop
 | .non,u=>u=Value.none
 | .bl b,u=>u=Value.bool b
 | .int i,u=>∃ t,u=Value.int i t
 | .str x,u=>∃ t,u=Value.str x t
 | .byt b,u=>∃ t,u=Value.bytes b t
 | .flt b,u=>∃ t,u=Value.float b t
 | .ref a,u=>u=Value.ref a
 | .ty n,u=>u=Value.type n
abbrev Vals:List V→List Value→Prop:=Paired RelV
theorem Vals.length {xs:List V} {us:List Value} (r:Vals xs us):xs.length=us.length:=Paired.length r
theorem Vals.get:∀ {xs:List V} {us:List Value} {i:Nat} {x:V},Vals xs us→xs[i]?=some x→∃ u,us[i]?=some u∧RelV x u
 | _,_,_,_,.nil,e=>by simp at e
 | _,_,0,_,.cons r _,e=>by simp at e;subst e;exact⟨_,rfl,r⟩
 | _,_,i + 1,x,.cons _ t,e=>by
  obtain⟨u,h1,h2⟩:=Vals.get (i:=i) (x:=x) t (by simpa using e)
  exact⟨u,by simpa using h1,h2⟩
theorem Vals.set {x:V} {u:Value} (r:RelV x u):∀ {xs:List V} {us:List Value} (i:Nat),Vals xs us→Vals (xs.set i x) (us.set i u)
 | _,_,_,.nil=>.nil
 | _,_,0,.cons _ t=>.cons r t
 | _,_,i + 1,.cons q t=>.cons q (Vals.set r i t)
theorem Vals.append:∀ {xs ys:List V} {us ws:List Value},Vals xs us→Vals ys ws→Vals (xs++ys) (us++ws)
 | _,_,_,_,.nil,s=>s
 | _,_,_,_,.cons r t,s=>.cons r (Vals.append t s)
theorem Vals.take:∀ {xs:List V} {us:List Value} (n:Nat),Vals xs us→Vals (xs.take n) (us.take n)
 | _,_,0,_=>.nil
 | _,_,_ + 1,.nil=>.nil
 | _,_,n + 1,.cons r t=>.cons r (Vals.take n t)
theorem Vals.drop:∀ {xs:List V} {us:List Value} (n:Nat),Vals xs us→Vals (xs.drop n) (us.drop n)
 | _,_,0,r=>r
 | _,_,_ + 1,.nil=>.nil
 | _,_,n + 1,.cons _ t=>Vals.drop n t
def gz:Option V→Option Value→Prop
 | some v,some u=>RelV v u
 | none,none=>True
 | _,_=>False
def KV {κ:Type}:List (κ×V)→List (κ×Value)→Prop:=Paired fun (p:κ×V) (q:κ×Value)=>p.1=q.1∧RelV p.2 q.2
def kV:Key→V
 | .inl i=>.int i
 | .inr x=>.str x
inductive HO where
 | lst (xs:List V)
 | tup (xs:List V)
 | dK (kvs:List (Key×V)) | dT (kvs:List (List Key×V))
 | set (S:Int→Bool) (n:Nat)
 | ins (C dx:Addr) (fs:List (Str×V))
 | own (x:Addr)
 | xd (fs:List (Str×V))
 | met (f x:Addr)
 | rng (lo hi:Int)
 | frz (o:Obj) (u:HO)
 | tbl (ps:Array Value)
 | ext (φ:Heap→Prop)
abbrev Hp:=Addr→Option HO
def upd (H:Hp) (a:Addr) (o:HO):Hp:=fun b=>if b=a then some o else H b
theorem ax {H:Hp} {a:Addr} {o:HO}:upd H a o a=some o:=by unfold upd;rw[if_pos rfl]
theorem ag {H:Hp} {a b:Addr} {o:HO} (h:b≠a):upd H a o b=H b:=by unfold upd;rw[if_neg h]
theorem mZ {H:Hp} {a b:Addr} {o u:HO} (h:H a=some o) (h':H b=some u) (d:o≠u):a≠b:=by
 intro e;subst e;rw[h] at h';exact d (Option.some.inj h')
theorem bz {H:Hp} {a b:Addr} {o:HO} (h:H a=some o) (h':H b=none):a≠b:=by
 intro e;subst e;rw[h] at h';cases h'
section
variable (P:Program) (w:World)
def bN (H:Hp) (h:Heap) (a:Addr):HO→Prop
 | .lst xs=>xs.length≤sizeLine∧∃ (its:List Value) (n:Nat),Vals xs its∧h.get? a=some { cls:=.type "list",data:=.seq its.toArray n }
 | .tup xs=>xs.length≤sizeLine∧∃ its:List Value,Vals xs its∧IsTup h a its.toArray
 | .dK kvs=>kvs.length≤sizeLine∧(a == sysModules)=false∧∃ vs,KV kvs vs∧h.DictOf (jI P w) a vs
 | .dT kvs=>kvs.length≤sizeLine∧(a == sysModules)=false∧∃ xs:List (List Key×Addr×Value),
   Paired (fun (p:List Key×V) (q:List Key×Addr×Value)=>p.1=q.1∧H q.2.1=some (.tup (p.1.map kV))∧RelV p.2 q.2.2) kvs xs∧
   ∃ o es ep,h.get? a=some o∧o.ExactDict∧o.data=.dict es ep∧es.toList=xs.map (entryOfKey (tupleKind (jI P w)))∧(xs.map (·.1)).Nodup
 | .set S n=>h.SetOf (intKind P w) a S n
 | .ins C dx fs=>H dx=some (.own a)∧fs.length≤1000∧dx≠a∧h.get? a=some (PySem.W.instObj C dx)∧
   ∃ mA,h.Ns1 dx mA∧(∀ f,gz (fs.lookup f) (mA f))∧PySem.Within mA (fs.map (·.1))
 | .own _=>∃ o,h.get? a=some o
 | .xd fs=>∃ mA,h.Ns1 a mA∧∀ f,gz (fs.lookup f) (mA f)
 | .rng lo hi=>∃ t u v,h.get? a=some { cls:=.type "range",data:=.fields #[.int lo t,.int hi u,.int 1 v] }
 | .frz o u=>h.get? a=some o∧bN H h a u
 | .tbl ps=>h.get? a=some { cls:=.none,data:=.fields ps }
 | .met f x=>h.get? a=some (PySem.W.methodObj (.ref f) (.ref x))
 | .ext φ=>φ h∧(∃ o,h.get? a=some o)∧∀ h1 h2:Heap,φ h1→(∀ o,h1.get? a=some o→h2.get? a=some o)→φ h2
def HOk (H:Hp) (h:Heap):Prop:=∀ a o,H a=some o→bN P w H h a o
end
section
variable {P:Program} {w:World} {H H':Hp} {h h':Heap} {a:Addr} {o:HO}
theorem bN.lt (x:bN P w H h a o):a < h.objs.size:=by
 cases o with
 | lst xs=>obtain⟨_,_,_,_,e⟩:=x;exact Heap.lt_size e
 | tup xs=>obtain⟨_,_,_,p⟩:=x;exact p.lt
 | dK kvs=>obtain⟨_,_,_,_,o,_,_,e,_⟩:=x;exact Heap.lt_size e
 | dT kvs=>obtain⟨_,_,_,_,o,_,_,e,_⟩:=x;exact Heap.lt_size e
 | set S n=>obtain⟨o,_,_,_,e,_⟩:=x;exact Heap.lt_size e
 | ins C dx fs=>obtain⟨_,_,_,e,_⟩:=x;exact Heap.lt_size e
 | own y=>obtain⟨_,e⟩:=x;exact Heap.lt_size e
 | xd fs=>obtain⟨_,⟨_,_,_,e,_⟩,_⟩:=x;exact Heap.lt_size e
 | rng lo hi=>obtain⟨_,_,_,e⟩:=x;exact Heap.lt_size e
 | frz ob u=>obtain⟨e,_⟩:=x;exact Heap.lt_size e
 | tbl ps=>exact Heap.lt_size (show h.get? a=some _ from x)
 | met f y=>exact Heap.lt_size (show h.get? a=some _ from x)
 | ext φ=>obtain⟨_,⟨_,e⟩,_⟩:=x;exact Heap.lt_size e
theorem Paired.AN {α β:Type} {F G:α→β→Prop}:∀ {l₁:List α} {l₂:List β},Paired F l₁ l₂→(∀ a b,F a b→G a b)→Paired G l₁ l₂
 | _,_,.nil,_=>.nil
 | _,_,.cons r t,f=>.cons (f _ _ r) (Paired.AN t f)
theorem bN.iP (x:bN P w H h a o) (k:∀ b u,(b=a∨H b=some (.own a))→h.get? b=some u→h'.get? b=some u)
  (ho:∀ b,H b=some (.own a)→H' b=some (.own a)) (ht:∀ b xs,H b=some (.tup xs)→H' b=some (.tup xs)):bN P w H' h' a o:=by
 induction o with
 | lst xs=>obtain⟨z,its,n,r,e⟩:=x;exact⟨z,its,n,r,k _ _ (.inl rfl) e⟩
 | tup xs=>obtain⟨z,its,r,ob,e,c⟩:=x;exact⟨z,its,r,ob,k _ _ (.inl rfl) e,c⟩
 | dK kvs=>obtain⟨z,y,vs,r,ob,es,ep,e,c⟩:=x;exact⟨z,y,vs,r,ob,es,ep,k _ _ (.inl rfl) e,c⟩
 | dT kvs=>
  obtain⟨z,y,xs,r,ob,es,ep,e,c⟩:=x
  exact⟨z,y,xs,Paired.AN r fun p q z=>⟨z.1,ht _ _ z.2.1,z.2.2⟩,ob,es,ep,k _ _ (.inl rfl) e,c⟩
 | set S n=>obtain⟨ob,es,ep,t,e,c⟩:=x;exact⟨ob,es,ep,t,k _ _ (.inl rfl) e,c⟩
 | ins C dx fs=>
  obtain⟨d,z,ne,e,mA,⟨od,es,ep,e2,c⟩,r⟩:=x
  exact⟨ho _ d,z,ne,k _ _ (.inl rfl) e,mA,⟨od,es,ep,k _ _ (.inr d) e2,c⟩,r⟩
 | own y=>obtain⟨ob,e⟩:=x;exact⟨ob,k _ _ (.inl rfl) e⟩
 | xd fs=>obtain⟨mA,⟨od,es,ep,e,c⟩,r⟩:=x;exact⟨mA,⟨od,es,ep,k _ _ (.inl rfl) e,c⟩,r⟩
 | rng lo hi=>obtain⟨t,u,v,e⟩:=x;exact⟨t,u,v,k _ _ (.inl rfl) e⟩
 | frz ob u ih=>obtain⟨e,q⟩:=x;exact⟨k _ _ (.inl rfl) e,ih q⟩
 | tbl ps=>
  have e:h.get? a=some { cls:=.none,data:=.fields ps }:=x
  show h'.get? a=some { cls:=.none,data:=.fields ps }
  exact k a _ (.inl rfl) e
 | met f y=>
  have e:h.get? a=some (PySem.W.methodObj (.ref f) (.ref y)):=x
  show h'.get? a=some (PySem.W.methodObj (.ref f) (.ref y))
  exact k a _ (.inl rfl) e
 | ext φ=>obtain⟨p,⟨o,e⟩,st⟩:=x;exact⟨st _ _ p fun o q=>k _ _ (.inl rfl) q,⟨o,k _ _ (.inl rfl) e⟩,st⟩
theorem HOk.lt (x:HOk P w H h) (e:H a=some o):a < h.objs.size:=(x a o e).lt
theorem HOk.fresh (x:HOk P w H h) (e:h.objs.size≤a):H a=none:=by
 cases q:H a with
 | none=>rfl
 | some u=>exact absurd (Nat.lt_of_lt_of_le (x.lt q) e) (Nat.lt_irrefl _)
theorem HOk.kept (x:HOk P w H h) (k:∀ b u,h.get? b=some u→h'.get? b=some u):HOk P w H h':=fun a o e=>
 (x a o e).iP (fun b u _ q=>k b u q) (fun _ q=>q) fun _ _ q=>q
theorem HOk.laid (x:HOk P w H h) (k:∀ b u,h.get? b=some u→h'.get? b=some u) (hp:h.objs.size≤a) (new:bN P w (upd H a o) h' a o):HOk P w (upd H a o) h':=fun b u e=>by
 have hn:=x.fresh hp
 by_cases hb:b=a
 ·subst hb;rw[ax] at e;cases e;exact new
 ·rw[ag hb] at e
  exact(x b u e).iP (fun c v _ q=>k c v q) (fun c q=>by rw[ag (bz q hn)];exact q) fun c xs q=>by rw[ag (bz q hn)];exact q
end
def Rd (H:Hp) (a:Addr) (u:HO):Prop:=H a=some u∨∃ o,H a=some (.frz o u)
theorem Rd.ok {P:Program} {w:World} {H:Hp} {h:Heap} {a:Addr} {u:HO} (r:Rd H a u) (x:HOk P w H h):bN P w H h a u:=by
 rcases r with r | ⟨o,r⟩
 ·exact x a u r
 ·obtain⟨_,q⟩:=x a _ r
  exact q
def Mut:Option HO→Prop
 | some (.lst _)=>True
 | some (.dK _)=>True
 | some (.dT _)=>True
 | some (.set _ _)=>True
 | some (.ins _ _ _)=>True
 | some (.ext _)=>True
 | _=>False
section
variable {P:Program} {w:World} {H:Hp} {h h':Heap} {x e:Addr} {o':HO}
theorem HOk.write (ok:HOk P w H h) (mu:Mut (H x)) (he:e=x∨H e=some (.own x)) (k:∀ b u,b≠e→h.get? b=some u→h'.get? b=some u) (heo:∃ u,h'.get? e=some u)
  (new:bN P w (upd H x o') h' x o'):HOk P w (upd H x o') h':=fun b u q=>by
 have nown:∀ c y,H c=some (.own y)→c≠x:=fun c y r z=>by subst z;rw[r] at mu;exact mu
 have ntup:∀ c xs,H c=some (.tup xs)→c≠x:=fun c xs r z=>by subst z;rw[r] at mu;exact mu
 by_cases hb:b=x
 ·subst hb;rw[ax] at q;cases q;exact new
 ·rw[ag hb] at q
  by_cases hbe:b=e
  ·have q':H b=some (.own x):=by
    rcases he with z | z
    ·exact absurd (hbe.trans z) hb
    ·rw[hbe];exact z
   rw[q] at q';cases q'
   obtain⟨v,hv⟩:=heo
   exact⟨v,by rw[hbe];exact hv⟩
  ·refine(ok b u q).iP (fun c v hc r=>k c v ?_ r) (fun c r=>by rw[ag (nown c b r)];exact r) fun c xs r=>by rw[ag (ntup c xs r)];exact r
   rcases hc with rfl | hc
   ·exact hbe
   ·rintro rfl
    rcases he with z | z
    ·exact nown c b hc z
    ·rw[hc] at z;cases z;exact hb rfl
end
structure Un (fs ex:List Addr) (H H':Hp) (h h':Heap):Prop where
 keep:∀ b o,h.get? b=some o→H b=none→b∉fs→b∉ex→h'.get? b=some o
 slot:∀ b o,h.get? b=some o→H b=none→b∈fs→b∉ex→∃ sl,h'.get? b=some { o with slots:=sl }
 free:∀ b o,h.get? b=some o→H b=none→b∉ex→H' b=none
 there:∀ b o,h.get? b=some o→b∉ex→∃ o',h'.get? b=some o'
 tups:∀ b xs,H b=some (.tup xs)→H' b=some (.tup xs)
 frzs:∀ b o u,H b=some (.frz o u)→H' b=some (.frz o u)
 tbls:∀ b ps,H b=some (.tbl ps)→∃ more,H' b=some (.tbl (ps++more))
section
variable {fs fs' ex ex':List Addr} {H H1 H2:Hp} {h h1 h2 h':Heap} {a x e:Addr} {o:HO}
theorem Un.any (u:Un fs ex H H1 h h1) {b:Addr} {ob:Obj} (q:h.get? b=some ob) (n:H b=none) (hx:b∉ex):∃ sl,h1.get? b=some { ob with slots:=sl }:=by
 by_cases hb:b∈fs
 ·exact u.slot b ob q n hb hx
 ·exact⟨ob.slots,u.keep b ob q n hb hx⟩
theorem Un.kept (k:∀ b u,h.get? b=some u→h'.get? b=some u):Un fs ex H H h h':=
 ⟨fun b ob q _ _ _=>k b ob q,fun b ob q _ _ _=>⟨ob.slots,k b ob q⟩,fun _ _ _ n _=>n,fun b ob q _=>⟨ob,k b ob q⟩,fun _ _ q=>q,fun _ _ _ q=>q,fun _ ps q=>⟨#[],by rw[q];simp⟩⟩
theorem Un.refl:Un fs ex H H h h:=Un.kept fun _ _ q=>q
theorem Un.laid (k:∀ b u,h.get? b=some u→h'.get? b=some u) (hp:h.objs.size≤a) (hn:H a=none):Un fs ex H (upd H a o) h h' where
 keep:=fun b u q _ _ _=>k b u q
 slot:=fun b u q _ _ _=>⟨u.slots,k b u q⟩
 free:=fun b u q n _=>by rw[ag (Nat.ne_of_lt (Nat.lt_of_lt_of_le (Heap.lt_size q) hp))];exact n
 there:=fun b u q _=>⟨u,k b u q⟩
 tups:=fun b xs q=>by rw[ag (bz q hn)];exact q
 frzs:=fun b u xs q=>by rw[ag (bz q hn)];exact q
 tbls:=fun b ps q=>⟨#[],by rw[ag (bz q hn),q];simp⟩
theorem Un.write (mu:Mut (H x)) (he:e=x∨H e=some (.own x)) (k:∀ b u,b≠e→h.get? b=some u→h'.get? b=some u) (heo:∃ u,h'.get? e=some u):Un fs ex H (upd H x o) h h':=by
 have hx:∀ b,H b=none→b≠x:=fun b n z=>by subst z;rw[n] at mu;exact mu
 have hb:∀ b,H b=none→b≠e:=fun b n z=>by
  subst z
  rcases he with r | r
  ·exact hx b n r
  ·rw[n] at r;cases r
 have hm:∀ b u,H b=some u→¬ Mut (some u)→b≠x:=fun b u q nm z=>by subst z;rw[q] at mu;exact nm mu
 refine⟨fun b u q n _ _=>k b u (hb b n) q,fun b u q n _ _=>⟨u.slots,k b u (hb b n) q⟩,fun b u q n _=>by rw[ag (hx b n)];exact n,fun b u q _=>?_,
  fun b xs q=>by rw[ag (hm b _ q fun z=>z)];exact q,fun b u xs q=>by rw[ag (hm b _ q fun z=>z)];exact q,fun b ps q=>⟨#[],by rw[ag (hm b _ q fun z=>z),q];simp⟩⟩
 by_cases hbe:b=e
 ·subst hbe;exact heo
 ·exact⟨u,k b u hbe q⟩
end
def trk (h:Heap) (H:Hp):List Addr:=(List.range h.objs.size).filter fun a=>(H a).isSome
def lZ (h:Heap) (H:Hp):Heap:=PySem.W.hideAll h (trk h H)
theorem qI (h:Heap) (H:Hp):(lZ h H).objs.size=h.objs.size:=PySem.W.hideAll_size _ _
theorem tm {h:Heap} {H:Hp} {b:Addr} {o:Obj} (e:h.get? b=some o) (n:H b=none):(lZ h H).get? b=some o:=
 PySem.W.hideAll_get _ e fun hm=>by
  have q:(H b).isSome=true:=(List.mem_filter.mp hm).2
  rw[n] at q;simp at q
theorem vo {h:Heap} {H:Hp} {b:Addr} {o:Obj} (e:(lZ h H).get? b=some o):h.get? b=some o∧H b=none:=by
 have e':h.get? b=some o:=PySem.W.of_hideAll (trk h H) e
 refine⟨e',?_⟩
 cases q:H b with
 | none=>rfl
 | some x=>
  have hm:b∈trk h H:=List.mem_filter.mpr ⟨List.mem_range.mpr (Heap.lt_size e'),by simp [q]⟩
  have z:(lZ h H).get? b=none:=PySem.W.hideAll_none (trk h H) hm
  rw[z] at e;cases e
def wg (g h:Heap) (L:Addr):List (Addr×Obj):=(List.range h.objs.size).filterMap fun a=>if a=L∨(g.get? a).isSome=true then none else (h.get? a).map fun o=>(a,o)
def rest (g h:Heap) (L d:Addr):List (Addr×Obj):=(wg g h L).filter fun p=>decide (p.1≠d)
end L2
namespace L2
open PySem PySem.Spec PyProof.Rows
structure Mod (K:PySem.W.Frag) (mg:Str→Option Value) (base:Heap):Prop where
 kin:K.In base
 glob:base.Ns mainGlobals mg
 blt:∃ mb,base.Ns builtinsNs mb∧∀ x:Str,x≠"__name__"→mb x=bootBuiltins x
 nolimit:base.NoLimit
structure Cx where
 prog:Program
 w:World
 K:PySem.W.Frag
 mg:Str→Option Value
 base:Heap
 A:Around
 N:List Str
 s₀:Shared
 H₀:Hp
 env:Env
 outer:List Env
 stack:List Env
 ex:List Addr
 fn:Str→Bool
 calm:Bool
 pn:List (Addr×Obj)
 xe:Value→Shared→Prop
def frs (l:List Env):List Addr:=l.filterMap (·.frame)
abbrev Cx.fs (X:Cx):List Addr:=frs X.outer
def Vis (sc:Scope) (x:Str):Prop:=sc.names.lookup x=some .local∨sc.names.lookup x=some .cell∨sc.names.lookup x=some .free
def Loc (sc:Scope) (x:Str):Prop:=sc.names.lookup x=some .local∨sc.names.lookup x=some .cell
def Look (env:Env) (h:Heap) (m:Str→Option Value) (x:Str) (u:Value):Prop:=
 (env.kindOf x=some .local∧m x=some u)∨((env.kindOf x=some .cell∨env.kindOf x=some .free)∧∃ c,env.cells.lookup x=some c∧h.IsCell c (some u))
structure Cx.Ok (X:Cx):Prop where
 mod:Mod X.K X.mg X.base
 kind:X.env.scope.kind=.function
 glob:X.env.globals=mainGlobals
 blt:X.env.builtins=builtinsNs
 above:X.s₀.heap.objs.size≤X.env.locals
 inj:∀ x y c,X.env.cells.lookup x=some c→X.env.cells.lookup y=some c→x=y
 has:∀ x,(X.env.kindOf x=some .cell∨X.env.kindOf x=some .free)→∃ c,X.env.cells.lookup x=some c
 cab:∀ x c,X.fn x=true→X.env.cells.lookup x=some c→X.s₀.heap.objs.size≤c
 hd:X.calm=true→X.A.handled=none
 frames:X.A.frames=some X.stack
 stk:X.stack=X.outer∨(X.stack=X.env::X.outer∧X.env.frame=some X.env.locals)
 exf:∀ b∈X.ex,b≠X.env.locals∧∀ x c,X.env.cells.lookup x=some c→c≠b
 bs:∀ b o,X.base.get? b=some o→X.s₀.heap.get? b=some o∧X.H₀ b=none
 bsz:X.base.objs.size≤X.s₀.heap.objs.size
 noex:∀ b o,X.base.get? b=some o→b∉X.ex
 exfs:∀ b∈X.ex,b∉X.fs
 eZ:X.s₀.heap.FunFrames X.base X.outer
 frf:∀ b∈X.fs,X.H₀ b=none
structure Inv (X:Cx) (pins:List (Addr×Obj)) (σ:List (Option V)) (H:Hp) (s:Shared):Prop where
 ok:X.Ok
 os:s.os=X.s₀.os
 bare:AllBare s.gens
 base:Un X.fs X.ex X.H₀ H X.s₀.heap s.heap
 loc:∃ m,s.heap.Ns X.env.locals m∧∀ (i:Nat) (x:Str) (v:V),X.N[i]?=some x→σ[i]?=some (some v)→Vis X.env.scope x→∃ u,RelV v u∧Look X.env s.heap m x u
 cell:∀ x c,X.env.cells.lookup x=some c→∃ v,s.heap.IsCell c v
 free:H X.env.locals=none
 freeC:∀ x c,X.env.cells.lookup x=some c→H c=none
 pin:∀ p∈X.pn++pins,s.heap.get? p.1=some p.2∧H p.1=none∧p.1≠X.env.locals∧p.1∉X.fs∧∀ v,p.2.data≠.cell v
 hok:HOk X.prog X.w H s.heap
 len:σ.length=X.N.length
section
variable {X:Cx} {pins:List (Addr×Obj)} {σ:List (Option V)} {H H':Hp} {s:Shared} {h':Heap}
theorem Cx.Ok.Cz (ok:X.Ok) {b:Addr} {o:Obj} (e:X.base.get? b=some o):b∉X.fs:=fun hb=>by
 have:=(ok.eZ.mem hb).1
 rw[e] at this;cases this
theorem Inv.bs (I:Inv X pins σ H s):∀ b o,X.base.get? b=some o→s.heap.get? b=some o∧H b=none:=fun b o e=>
 ⟨I.base.keep b o (I.ok.bs b o e).1 (I.ok.bs b o e).2 (I.ok.Cz e) (I.ok.noex b o e),I.base.free b o (I.ok.bs b o e).1 (I.ok.bs b o e).2 (I.ok.noex b o e)⟩
theorem Inv.bk (I:Inv X pins σ H s):∀ b o,X.base.get? b=some o→s.heap.get? b=some o:=fun b o e=>(I.bs b o e).1
theorem Inv.mod (I:Inv X pins σ H s):Mod X.K X.mg X.base:=I.ok.mod
theorem Inv.kIn (I:Inv X pins σ H s):X.K.In s.heap:=I.ok.mod.kin.keeps I.bk
theorem Inv.lt (I:Inv X pins σ H s):X.env.locals < s.heap.objs.size:=let ⟨_,hn,_⟩:=I.loc;hn.lt
theorem Inv.sz (I:Inv X pins σ H s):X.s₀.heap.objs.size≤s.heap.objs.size:=Nat.le_trans I.ok.above (Nat.le_of_lt I.lt)
theorem Inv.Cy (I:Inv X pins σ H s) {a:Addr} (h:s.heap.objs.size≤a):a∉X.fs:=fun hb=>by
 obtain⟨_,o,ho,_⟩:=I.ok.eZ.mem hb
 exact absurd (Nat.lt_of_lt_of_le (Heap.lt_size ho) (Nat.le_trans I.sz h)) (Nat.lt_irrefl _)
theorem Inv.cne (I:Inv X pins σ H s):∀ x c,X.env.cells.lookup x=some c→c≠X.env.locals:=fun x c e z=>by
 obtain⟨v,o,ho,hd⟩:=I.cell x c e
 obtain⟨m,⟨o',es,ep,ho',hd',_⟩,_⟩:=I.loc
 rw[z,ho'] at ho;cases ho;rw[hd'] at hd;cases hd
theorem Inv.eZ (I:Inv X pins σ H s):s.heap.FunFrames X.base X.outer:=by
 have all:∀ (l:List Env),(∀ b∈frs l,b∈X.fs)→X.s₀.heap.FunFrames X.base l→s.heap.FunFrames X.base l:=by
  intro l
  induction l with
  | nil=>intro _ _;trivial
  | cons env r ih=>
   intro hs hl
   obtain⟨hk,⟨L,o,hf,hn,ho,hd⟩,hr⟩:=hl
   have hL:L∈X.fs:=hs L (by unfold frs;rw[List.filterMap_cons,hf];exact List.mem_cons_self)
   obtain⟨sl,e⟩:=I.base.slot L o ho (I.ok.frf L hL) hL fun z=>I.ok.exfs L z hL
   exact⟨hk,⟨L,_,hf,hn,e,hd⟩,ih (fun b hb=>hs b (by unfold frs;rw[List.filterMap_cons,hf];exact List.mem_cons_of_mem _ hb)) hr⟩
 exact all X.outer (fun _ hb=>hb) I.ok.eZ
theorem Inv.stack (I:Inv X pins σ H s):s.heap.FunFrames X.base X.stack:=by
 rcases I.ok.stk with e | ⟨e,hf⟩
 ·rw[e];exact I.eZ
 ·rw[e]
  obtain⟨m,hn,_⟩:=I.loc
  refine .cons (by rw[I.ok.kind];decide) hf hn ?_ I.eZ
  exact Heap.get?_none_of_le (Nat.le_trans I.ok.bsz I.ok.above)
theorem Inv.lC (I:Inv X pins σ H s):∀ b∈frs X.stack,b∈X.env.locals::X.fs:=fun b hb=>by
 rcases I.ok.stk with e | ⟨e,hf⟩
 ·rw[e] at hb;exact List.mem_cons_of_mem _ hb
 ·rw[e] at hb
  unfold frs at hb
  rw[List.filterMap_cons,hf] at hb
  exact hb
theorem Inv.lD (I:Inv X pins σ H s):∀ b∈frs X.stack,H b=none:=fun b hb=>by
 rcases List.mem_cons.mp (I.lC b hb) with e | hb
 ·rw[e];exact I.free
 ·obtain⟨_,o,ho,_⟩:=I.ok.eZ.mem hb
  exact I.base.free b o ho (I.ok.frf b hb) fun z=>I.ok.exfs b z hb
theorem Inv.step {g':Array GenState} {t':Nat} {d':Drawn} {ch:List Addr} (I:Inv X pins σ H s)
  (hch:∀ b∈ch,(b∈X.ex∨X.s₀.heap.objs.size≤b)∧b≠X.env.locals∧(∀ x c,X.env.cells.lookup x=some c→c≠b)∧∀ p∈X.pn++pins,p.1≠b)
  (keep:∀ b o,b≠X.env.locals→b∉X.fs→b∉ch→s.heap.get? b=some o→H b=none→h'.get? b=some o)
  (slot:∀ b o,b≠X.env.locals→b∈X.fs→b∉ch→s.heap.get? b=some o→H b=none→∃ sl,h'.get? b=some { o with slots:=sl }) (free:∀ b o,b∉ch→s.heap.get? b=some o→H b=none→H' b=none)
  (there:∀ b o,b∉ch→s.heap.get? b=some o→∃ o',h'.get? b=some o')
  (tups:∀ b xs,H b=some (.tup xs)→H' b=some (.tup xs)) (frzs:∀ b o u,H b=some (.frz o u)→H' b=some (.frz o u)) (tbls:∀ b ps,H b=some (.tbl ps)→∃ more,H' b=some (.tbl (ps++more)))
  (ns:∀ m,s.heap.Ns X.env.locals m→h'.Ns X.env.locals m) (hok:HOk X.prog X.w H' h') (hg:AllBare g') :
  Inv X pins σ H' { s with heap:=h',gens:=g',drawn:=d',toks:=t' }:=by
 have neL:∀ b o,X.s₀.heap.get? b=some o→b≠X.env.locals:=fun b o e=>Nat.ne_of_lt (Nat.lt_of_lt_of_le (Heap.lt_size e) I.ok.above)
 have neC:∀ b o,X.s₀.heap.get? b=some o→b∉X.ex→b∉ch:=fun b o e hx hb=>by
  rcases(hch b hb).1 with z | z
  ·exact hx z
  ·exact absurd (Nat.lt_of_lt_of_le (Heap.lt_size e) z) (Nat.lt_irrefl _)
 have cellK:∀ x c,X.env.cells.lookup x=some c→∀ v,s.heap.IsCell c v→h'.IsCell c v:=fun x c e v ⟨o,ho,hd⟩=>by
  have nch:c∉ch:=fun z=>(hch c z).2.2.1 x c e rfl
  by_cases hc:c∈X.fs
  ·obtain⟨sl,q⟩:=slot c o (I.cne x c e) hc nch ho (I.freeC x c e)
   exact⟨_,q,hd⟩
  ·exact⟨o,keep c o (I.cne x c e) hc nch ho (I.freeC x c e),hd⟩
 refine⟨I.ok,I.os,hg,⟨fun b o e n hb hx=>?_,fun b o e n hb hx=>?_,fun b o e n hx=>?_,fun b o e hx=>?_,fun b xs e=>tups b xs (I.base.tups b xs e),fun b o xs e=>frzs b o xs (I.base.frzs b o xs e),fun b ps e=>?_⟩,?_,fun x c e=>?_,?_,fun x c e=>?_,fun p hp=>?_,hok,I.len⟩
 ·exact keep b o (neL b o e) hb (neC b o e hx) (I.base.keep b o e n hb hx) (I.base.free b o e n hx)
 ·obtain⟨sl,e1⟩:=I.base.slot b o e n hb hx
  obtain⟨sl',e2⟩:=slot b _ (neL b o e) hb (neC b o e hx) e1 (I.base.free b o e n hx)
  exact⟨sl',e2⟩
 ·obtain⟨o',e1⟩:=I.base.there b o e hx
  exact free b o' (neC b o e hx) e1 (I.base.free b o e n hx)
 ·obtain⟨o',e1⟩:=I.base.there b o e hx
  exact there b o' (neC b o e hx) e1
 ·obtain⟨m1,e1⟩:=I.base.tbls b ps e
  obtain⟨m2,e2⟩:=tbls b _ e1
  exact⟨m1++m2,by rw[e2,Array.append_assoc]⟩
 ·obtain⟨m,hn,hl⟩:=I.loc
  refine⟨m,ns m hn,fun i x v e1 e2 e3=>?_⟩
  obtain⟨u,r,l⟩:=hl i x v e1 e2 e3
  refine⟨u,r,?_⟩
  rcases l with l | ⟨k,c,e,z⟩
  ·exact .inl l
  ·exact .inr ⟨k,c,e,cellK x c e _ z⟩
 ·obtain⟨v,z⟩:=I.cell x c e
  exact⟨v,cellK x c e v z⟩
 ·obtain⟨m,⟨o,_,_,ho,_⟩,_⟩:=I.loc
  exact free _ o (fun z=>(hch _ z).2.1 rfl) ho I.free
 ·obtain⟨v,o,ho,hd⟩:=I.cell x c e
  exact free c o (fun z=>(hch c z).2.2.1 x c e rfl) ho (I.freeC x c e)
 ·obtain⟨e,n,ne,nf,d⟩:=I.pin p hp
  have nch:p.1∉ch:=fun z=>(hch p.1 z).2.2.2 p hp rfl
  exact⟨keep p.1 p.2 ne nf nch e n,free p.1 p.2 nch e n,ne,nf,d⟩
theorem Inv.un {t':Nat} (I:Inv X pins σ H s) (u:Un X.fs [] H H' s.heap h') (hok:HOk X.prog X.w H' h'):Inv X pins σ H' { s with heap:=h',toks:=t' }:=by
 obtain⟨m,⟨o,es,ep,ho,r⟩,_⟩:=id I.loc
 obtain⟨sl,hL⟩:=u.any ho I.free (by simp)
 exact I.step (g':=s.gens) (d':=s.drawn) (ch:=[]) (fun _ z=>nomatch z) (fun b o _ hb _ e n=>u.keep b o e n hb (by simp)) (fun b o _ hb _ e n=>u.slot b o e n hb (by simp)) (fun b o _ e n=>u.free b o e n (by simp)) (fun b o _ e=>u.there b o e (by simp)) u.tups u.frzs u.tbls (fun m' hm=>by
  obtain⟨o',es',ep',ho',r'⟩:=hm
  rw[ho] at ho';cases ho'
  exact⟨_,es',ep',hL,r'⟩) hok I.bare
theorem Inv.call {g':Array GenState} {t':Nat} {d':Drawn} {ch:List Addr} (I:Inv X pins σ H s) (u:Un (frs X.stack) ch H H' s.heap h') (hok:HOk X.prog X.w H' h') (hg:AllBare g')
  (hch:∀ b∈ch,(b∈X.ex∨X.s₀.heap.objs.size≤b)∧b≠X.env.locals∧(∀ x c,X.env.cells.lookup x=some c→c≠b)∧∀ p∈X.pn++pins,p.1≠b) :
  Inv X pins σ H' { s with heap:=h',gens:=g',drawn:=d',toks:=t' }:=by
 obtain⟨m,⟨o,es,ep,ho,r⟩,_⟩:=id I.loc
 obtain⟨sl,hL⟩:=u.any ho I.free fun z=>(hch _ z).2.1 rfl
 exact I.step (ch:=ch) hch (fun b o hL hb hc e n=>u.keep b o e n (fun z=>(List.mem_cons.mp (I.lC b z)).elim hL hb) hc) (fun b o _ _ hc e n=>u.any e n hc) (fun b o hc e n=>u.free b o e n hc) (fun b o hc e=>u.there b o e hc) u.tups u.frzs u.tbls (fun m' hm=>by
  obtain⟨o',es',ep',ho',r'⟩:=hm
  rw[ho] at ho';cases ho'
  exact⟨_,es',ep',hL,r'⟩) hok hg
theorem Inv.turned {t':Nat} {it:Addr} (I:Inv X pins σ H s) (k:∀ b o,b≠it→s.heap.get? b=some o→h'.get? b=some o) (hn:H it=none) (hL:it≠X.env.locals)
  (h1:it∈X.ex∨X.s₀.heap.objs.size≤it) (h2:∀ x c,X.env.cells.lookup x=some c→c≠it) (h3:∀ p∈X.pn++pins,p.1≠it):Inv X pins σ H { s with heap:=h',toks:=t' }:=by
 have nit:∀ b u,H b=some u→b≠it:=fun b u e z=>by rw[z,hn] at e;cases e
 refine I.step (g':=s.gens) (d':=s.drawn) (ch:=[it]) (fun b hb=>?_) (fun b o _ _ hc e _=>k b o (fun z=>hc (by simp [z])) e) (fun b o _ _ hc e _=>⟨o.slots,k b o (fun z=>hc (by simp [z])) e⟩) (fun _ _ _ _ n=>n)
  (fun b o hc e=>⟨o,k b o (fun z=>hc (by simp [z])) e⟩) (fun _ _ e=>e) (fun _ _ _ e=>e) (fun b ps e=>⟨#[],by rw[e];simp⟩) (fun m hm=>?_) (fun b u e=>?_) I.bare
 ·have e:b=it:=by simpa using hb
  subst e
  exact⟨h1,hL,h2,h3⟩
 ·obtain⟨o,es,ep,ho,r⟩:=hm
  exact⟨o,es,ep,k _ o (Ne.symm hL) ho,r⟩
 ·refine(I.hok b u e).iP (fun c v hc q=>k c v ?_ q) (fun _ q=>q) fun _ _ q=>q
  rcases hc with z | z
  ·rw[z];exact nit b u e
  ·exact nit c _ z
theorem Inv.tok (I:Inv X pins σ H s) (t:Nat):Inv X pins σ H { s with toks:=t }:=I.un (h':=s.heap) (t':=t) Un.refl I.hok
theorem Inv.kept {t':Nat} (I:Inv X pins σ H s) (k:∀ b u,s.heap.get? b=some u→h'.get? b=some u):Inv X pins σ H { s with heap:=h',toks:=t' }:=I.un (Un.kept k) (I.hok.kept k)
theorem Inv.laid {a:Addr} {o:HO} {t':Nat} (I:Inv X pins σ H s) (k:∀ b u,s.heap.get? b=some u→h'.get? b=some u) (hp:s.heap.objs.size≤a) (new:bN X.prog X.w (upd H a o) h' a o) :
  Inv X pins σ (upd H a o) { s with heap:=h',toks:=t' }:=I.un (Un.laid k hp (I.hok.fresh hp)) (I.hok.laid k hp new)
theorem Inv.write {x e:Addr} {o:HO} {t':Nat} (I:Inv X pins σ H s) (mu:Mut (H x)) (he:e=x∨H e=some (.own x)) (k:∀ b u,b≠e→s.heap.get? b=some u→h'.get? b=some u) (heo:∃ u,h'.get? e=some u)
  (new:bN X.prog X.w (upd H x o) h' x o):Inv X pins σ (upd H x o) { s with heap:=h',toks:=t' }:=I.un (Un.write mu he k heo) (I.hok.write mu he k heo new)
theorem Inv.ik {pins':List (Addr×Obj)} (I:Inv X pins σ H s) (h:∀ p∈pins',s.heap.get? p.1=some p.2∧H p.1=none∧p.1≠X.env.locals∧p.1∉X.fs∧∀ v,p.2.data≠.cell v):Inv X pins' σ H s:=
 ⟨I.ok,I.os,I.bare,I.base,I.loc,I.cell,I.free,I.freeC,fun p hp=>(List.mem_append.mp hp).elim (fun z=>I.pin p (List.mem_append_left _ z)) (h p),I.hok,I.len⟩
theorem jY {N:List Str} (hN:N.Nodup) {i j:Nat} {x:Str} (a:N[i]?=some x) (b:N[j]?=some x):i=j:=by
 obtain⟨h1,e1⟩:=List.getElem?_eq_some_iff.mp a
 obtain⟨h2,e2⟩:=List.getElem?_eq_some_iff.mp b
 exact(List.getElem_inj hN).mp (e1.trans e2.symm)
theorem kH {M:Model} {A:Around} {E:Value→Shared→Prop} {i:Nat} {x:Str} {v:V} {u:Value} {Q:Unit→Shared→Prop} (I:Inv X pins σ H s) (hN:X.N.Nodup) (hi:X.N[i]?=some x) (hx:Loc X.env.scope x) (r:RelV v u)
  (h:∀ s',Inv X pins (σ.set i (some v)) H s'→(∃ a,Heap.SameBut a s.heap s'.heap∧(a=X.env.locals∨X.env.cells.lookup x=some a))→Q () s') (hf:X.fn x=true∨X.env.scope.names.lookup x=some .local:=by first | exact .inl rfl | exact .inr rfl | assumption):wpAny M A (storeName X.env x u) Q E s:=by
 obtain⟨m,hn,hl⟩:=id I.loc
 have hcls:(X.env.scope.kind == .class || (X.env.scope.kind == .module && X.env.locals != X.env.globals))=false:=by rw[I.ok.kind];rfl
 have hiσ:i < σ.length:=by rw[I.len];exact(List.getElem?_eq_some_iff.mp hi).1
 have cne:=I.cne
 have tracked:∀ {a:Addr} {h':Heap},(∃ o,s.heap.get? a=some o∧H a=none)→Heap.SameBut a s.heap h'→HOk X.prog X.w H h':=fun {a h'} ha hs b ob e=>by
  obtain⟨_,_,hfree⟩:=ha
  refine(I.hok b ob e).iP (fun c w' hc q=>(hs.2 c ?_).trans q) (fun _ q=>q) fun _ _ q=>q
  rintro rfl
  rcases hc with rfl | hc
  ·rw[hfree] at e;cases e
  ·rw[hfree] at hc;cases hc
 rcases hx with hk | hk
 ·refine wpAny_storeName_local hk hn (fun h' hn' hs=>?_) hcls
  obtain⟨oL,_,_,hoL,_⟩:=id hn
  refine h _ ⟨I.ok,I.os,I.bare,⟨fun b o e n hb hx=>?_,fun b o e n hb hx=>?_,I.base.free,fun b o e hx=>?_,I.base.tups,I.base.frzs,I.base.tbls⟩,⟨_,hn',fun j y v' e1 e2 e3=>?_⟩,fun y c e=>?_,I.free,I.freeC,fun p hp=>?_,tracked ⟨oL,hoL,I.free⟩ hs,by simpa using I.len⟩ ⟨_,hs,.inl rfl⟩
  ·exact(hs.2 b (Nat.ne_of_lt (Nat.lt_of_lt_of_le (Heap.lt_size e) I.ok.above))).trans (I.base.keep b o e n hb hx)
  ·obtain⟨sl,e1⟩:=I.base.slot b o e n hb hx
   exact⟨sl,(hs.2 b (Nat.ne_of_lt (Nat.lt_of_lt_of_le (Heap.lt_size e) I.ok.above))).trans e1⟩
  ·obtain⟨o',e1⟩:=I.base.there b o e hx
   exact⟨o',(hs.2 b (Nat.ne_of_lt (Nat.lt_of_lt_of_le (Heap.lt_size e) I.ok.above))).trans e1⟩
  ·by_cases hj:j=i
   ·subst hj
    rw[hi] at e1;cases e1
    rw[List.getElem?_set_self hiσ] at e2
    cases e2
    exact⟨u,r,.inl ⟨hk,by simp⟩⟩
   ·rw[List.getElem?_set_ne (Ne.symm hj)] at e2
    obtain⟨u',r',q⟩:=hl j y v' e1 e2 e3
    refine⟨u',r',?_⟩
    rcases q with ⟨k,e⟩ | ⟨k,c,e,z⟩
    ·refine .inl ⟨k,?_⟩
     have:y≠x:=fun e=>hj (jY hN e1 (e ▸ hi))
     simp [this,e]
    ·exact .inr ⟨k,c,e,z.sameBut hs (cne y c e)⟩
  ·obtain⟨w',z⟩:=I.cell y c e
   exact⟨w',z.sameBut hs (cne y c e)⟩
  ·obtain⟨e,n,ne,nf,d⟩:=I.pin p hp
   exact⟨(hs.2 p.1 ne).trans e,n,ne,nf,d⟩
 ·have hfn:X.fn x=true:=by
   rcases hf with z | z
   ·exact z
   ·rw[z] at hk;cases hk
  obtain⟨c,hc⟩:=I.ok.has x (.inl hk)
  obtain⟨w',z⟩:=I.cell x c hc
  refine wpAny_storeName_cell I.ok.kind hk hc z (fun h' hc' hs=>?_)
  obtain⟨oc,hoc,hocd⟩:=id z
  refine h { s with heap:=h' } ⟨I.ok,I.os,I.bare,⟨fun b o e n hb hx=>?_,fun b o e n hb hx=>?_,I.base.free,fun b o e hx=>?_,I.base.tups,I.base.frzs,I.base.tbls⟩,⟨m,hn.sameBut hs (Ne.symm (cne x c hc)),fun j y v' e1 e2 e3=>?_⟩,fun y c' e=>?_,I.free,I.freeC,fun p hp=>?_,tracked ⟨oc,hoc,I.freeC x c hc⟩ hs,by simpa using I.len⟩ ⟨c,hs,.inr hc⟩
  ·exact(hs.2 b (Nat.ne_of_lt (Nat.lt_of_lt_of_le (Heap.lt_size e) (I.ok.cab x c hfn hc)))).trans (I.base.keep b o e n hb hx)
  ·obtain⟨sl,e1⟩:=I.base.slot b o e n hb hx
   exact⟨sl,(hs.2 b (Nat.ne_of_lt (Nat.lt_of_lt_of_le (Heap.lt_size e) (I.ok.cab x c hfn hc)))).trans e1⟩
  ·obtain⟨o',e1⟩:=I.base.there b o e hx
   exact⟨o',(hs.2 b (Nat.ne_of_lt (Nat.lt_of_lt_of_le (Heap.lt_size e) (I.ok.cab x c hfn hc)))).trans e1⟩
  ·by_cases hj:j=i
   ·subst hj
    rw[hi] at e1;cases e1
    rw[List.getElem?_set_self hiσ] at e2
    cases e2
    exact⟨u,r,.inr ⟨.inl hk,c,hc,hc'⟩⟩
   ·rw[List.getElem?_set_ne (Ne.symm hj)] at e2
    obtain⟨u',r',q⟩:=hl j y v' e1 e2 e3
    refine⟨u',r',?_⟩
    rcases q with q | ⟨k,c',e,z'⟩
    ·exact .inl q
    ·refine .inr ⟨k,c',e,z'.sameBut hs ?_⟩
     rintro rfl
     exact hj (jY hN e1 (I.ok.inj _ _ _ e hc ▸ hi))
  ·by_cases hcc:c'=c
   ·subst hcc;exact⟨_,hc'⟩
   ·obtain⟨w2,z2⟩:=I.cell y c' e
    exact⟨w2,z2.sameBut hs hcc⟩
  ·obtain⟨e,n,ne,nf,d⟩:=I.pin p hp
   refine⟨(hs.2 p.1 ?_).trans e,n,ne,nf,d⟩
   intro q
   rw[q,hoc] at e
   have q':oc=p.2:=Option.some.inj e
   exact d w' (by rw[← q'];exact hocd)
theorem fe {M:Model} {A:Around} {E:Value→Shared→Prop} {i:Nat} {x:Str} {v:V} {u:Value} {Q:Unit→Shared→Prop} (I:Inv X pins σ H s) (hN:X.N.Nodup) (hi:X.N[i]?=some x) (hx:Loc X.env.scope x) (r:RelV v u)
  (h:∀ s',Inv X pins (σ.set i (some v)) H s'→Q () s') (hf:X.fn x=true∨X.env.scope.names.lookup x=some .local:=by first | exact .inl rfl | exact .inr rfl | assumption):wpAny M A (storeName X.env x u) Q E s:=
 kH I hN hi hx r (fun s' I' _=>h s' I') hf
theorem Inv.tY {s':Shared} {ch:List Addr} (I:Inv X pins σ H s) (ho:s'.os=s.os) (u:Un (frs X.stack) ch H H' s.heap s'.heap) (hok:HOk X.prog X.w H' s'.heap) (hg:AllBare s'.gens)
  (hch:∀ b∈ch,(b∈X.ex∨X.s₀.heap.objs.size≤b)∧b≠X.env.locals∧(∀ x c,X.env.cells.lookup x=some c→c≠b)∧∀ p∈X.pn++pins,p.1≠b):Inv X pins σ H' s':=by
 obtain⟨h',g',d',t',o'⟩:=s'
 have e:o'=s.os:=ho
 subst e
 exact I.call (g':=g') (t':=t') (d':=d') u hok hg hch
end
abbrev XK:=Value→Option Addr→Hp→Prop
abbrev St:=List (Option V)
abbrev VK:=V→Hp→Prop
abbrev TE:=St→Hp→VK→Prop
abbrev TT:=St→Hp→(Bool→Hp→Prop)→Prop
abbrev TA:=St→Hp→(List V→Hp→Prop)→Prop
structure Ends where
 nx:St→Hp→Prop
 rt:VK
 bk:St→Hp→Prop:=fun _ _=>False
 ct:St→Hp→Prop:=fun _ _=>False
abbrev TS:=Ends→St→Hp→Prop
def EP (X:Cx) (pins:List (Addr×Obj)) (σ:St) (Q:VK) (u:Value) (s':Shared):Prop:=∃ v H',Inv X pins σ H' s'∧RelV v u∧Q v H'
def TP (X:Cx) (pins:List (Addr×Obj)) (σ:St) (Q:Bool→Hp→Prop) (b:Bool) (s':Shared):Prop:=∃ H',Inv X pins σ H' s'∧Q b H'
def AP (X:Cx) (pins:List (Addr×Obj)) (σ:St) (Q:List V→Hp→Prop) (us:List Value) (s':Shared):Prop:=∃ vs H',Inv X pins σ H' s'∧Vals vs us∧Q vs H'
def SP (X:Cx) (pins:List (Addr×Obj)) (D:Ends) (f:Flow) (s':Shared):Prop:=
 match f with
 | .next=>∃ σ' H',Inv X pins σ' H' s'∧D.nx σ' H'
 | .brk=>∃ σ' H',Inv X pins σ' H' s'∧D.bk σ' H'
 | .cont=>∃ σ' H',Inv X pins σ' H' s'∧D.ct σ' H'
 | .ret u=>∃ v σ' H',Inv X pins σ' H' s'∧RelV v u∧D.rt v H'
def PE (X:Cx) (e:Expr) (t:TE):Prop:=
 ∀ (pins:List (Addr×Obj)) (s:Shared) (σ:St) (H:Hp) (Q:VK),Inv X pins σ H s→t σ H Q→wpAny (model X.prog X.w) X.A (eval e X.env) (EP X pins σ Q) X.xe s
def PT (X:Cx) (e:Expr) (t:TT):Prop:=
 ∀ (pins:List (Addr×Obj)) (s:Shared) (σ:St) (H:Hp) (Q:Bool→Hp→Prop),Inv X pins σ H s→t σ H Q→wpAny (model X.prog X.w) X.A (isTrue e X.env (eval e X.env)) (TP X pins σ Q) X.xe s
def PW (X:Cx) (e:Expr) (t:TT):Prop:=
 ∀ (whole:Sem Value) (pins:List (Addr×Obj)) (s:Shared) (σ:St) (H:Hp) (Q:Bool→Hp→Prop),Inv X pins σ H s→t σ H Q→wpAny (model X.prog X.w) X.A (isTrue e X.env whole) (TP X pins σ Q) X.xe s
theorem PW.pt {X:Cx} {e:Expr} {t:TT} (h:PW X e t):PT X e t:=h _
def PA (X:Cx) (es:List Expr) (t:TA):Prop:=
 ∀ (pos:Pos) (pins:List (Addr×Obj)) (s:Shared) (σ:St) (H:Hp) (Q:List V→Hp→Prop),Inv X pins σ H s→t σ H Q→wpAny (model X.prog X.w) X.A (spliced (backTo pos (starEach es X.env))) (AP X pins σ Q) X.xe s
def PS (X:Cx) (st:Stmt) (t:TS):Prop:=
 ∀ (pins:List (Addr×Obj)) (s:Shared) (σ:St) (H:Hp) (D:Ends),Inv X pins σ H s→t D σ H→wpAny (model X.prog X.w) X.A (exec st X.env) (SP X pins D) X.xe s
def PSs (X:Cx) (st:List Stmt) (t:TS):Prop:=
 ∀ (pins:List (Addr×Obj)) (s:Shared) (σ:St) (H:Hp) (D:Ends),Inv X pins σ H s→t D σ H→wpAny (model X.prog X.w) X.A (execs st X.env) (SP X pins D) X.xe s
theorem thn {α:Type} {t:Sem α} {Q Q':α→Shared→Prop} {M:Model} {A:Around} {E:Value→Shared→Prop} {s:Shared} (h:wpAny M A t Q E s) (hQ:∀ a s,Q a s→Q' a s):wpAny M A t Q' E s:=wpAny_mono h hQ fun _ _ x=>x
end L2
namespace L2
open PySem PySem.Spec PyProof.Rows
section
variable {X:Cx}
theorem bin {a b:Expr} {ta tb:TE} (ha:PE X a ta) (hb:PE X b tb) {pins:List (Addr×Obj)} {s:Shared} {σ:St} {H:Hp} {R:V→V→Hp→Prop} (I:Inv X pins σ H s) (h:ta σ H fun x H1=>tb σ H1 fun y H2=>R x y H2)
  {α:Type} {Q:α→Shared→Prop} {f:Value→Value→Sem α}
  (hf:∀ v u s2 x y H2,Inv X pins σ H2 s2→RelV x v→RelV y u→R x y H2→wpAny (model X.prog X.w) X.A (f v u) Q X.xe s2) :
  wpAny (model X.prog X.w) X.A (eval a X.env) (fun v s₁=>wpAny (model X.prog X.w) X.A (eval b X.env) (fun u s₂=>wpAny (model X.prog X.w) X.A (f v u) Q X.xe s₂) X.xe s₁) X.xe s:=by
 refine thn (ha pins s σ H _ I h) fun v s1 ⟨x,H1,I1,r1,q1⟩=>?_
 refine thn (hb pins s1 σ H1 _ I1 q1) fun u s2 ⟨y,H2,I2,r2,q2⟩=>?_
 exact hf v u s2 x y H2 I2 r1 r2 q2
def eY (i:Nat):TE:=fun σ H Q=>∃ v,σ[i]?=some (some v)∧Q v H
def tC (v:V):TE:=fun _ H Q=>Q v H
theorem fk {i:Nat} {x:Str} {pos:Pos} (hN:X.N[i]?=some x) (hv:Vis X.env.scope x) (hd:(x == ("__debug__":Str))=false:=by decide) (hcd:(x == ("__classdict__":Str))=false:=by decide):PE X (.Name x pos) (eY i):=by
 intro pins s σ H Q I h
 obtain⟨v,e,h⟩:=h
 obtain⟨m,hn,hl⟩:=I.loc
 obtain⟨u,r,l⟩:=hl i x v hN e hv
 have fin:EP X pins σ Q u s:=⟨v,H,I,r,h⟩
 rcases l with ⟨hk,hm⟩ | ⟨hk,c,hc,hcell⟩
 ·exact wpAny_Name (wpAny_loadName_local I.ok.kind hk hn hm fin) hd
 ·rcases hk with hk | hk
  ·exact wpAny_Name (wpAny_loadName_cell I.ok.kind hk hc hcell fin) hd
  ·exact wpAny_Name (wpAny_loadName_free I.ok.kind hk hc hcell fin hcd) hd
theorem oi {i j pos}:PE X (.Constant (.int i) j pos) (tC (.int i)):=fun _ _ _ H _ I h=>wpAny_Constant_int ⟨.int i,H,I.tok _,⟨_,rfl⟩,h⟩
theorem AD {b j pos}:PE X (.Constant (.bool b) j pos) (tC (.bl b)):=fun _ _ _ H _ I h=>Constant_bool ⟨.bl b,H,I,rfl,h⟩
theorem yd {j pos}:PE X (.Constant .none j pos) (tC .non):=fun _ _ _ H _ I h=>Constant_none ⟨.non,H,I,rfl,h⟩
theorem rZ {x j pos}:PE X (.Constant (.str x) j pos) (tC (.str x)):=fun _ _ _ H _ I h=>Calls.Constant_str ⟨.str x,H,I.tok _,⟨_,rfl⟩,h⟩
def Gl (X:Cx) (x:Str):Prop:=X.env.kindOf x=some .globalImplicit
theorem el {E:Value→Shared→Prop} {pins:List (Addr×Obj)} {s:Shared} {σ:St} {H:Hp} {x:Str} {u:Value} {pos:Pos} {Q:Value→Shared→Prop} (I:Inv X pins σ H s) (hg:Gl X x) (hm:X.mg x=some u) (h:Q u s)
  (hd:(x == ("__debug__":Str))=false:=by decide):wpAny (model X.prog X.w) X.A (eval (.Name x pos) X.env) Q E s:=
 Calls.Name_function_global I.ok.kind hg (Calls.loadGlobal_global (by rw[I.ok.glob];exact I.mod.glob.keeps I.bk) hm h) hd
theorem iV {E:Value→Shared→Prop} {pins:List (Addr×Obj)} {s:Shared} {σ:St} {H:Hp} {x:Str} {u:Value} {pos:Pos} {Q:Value→Shared→Prop} (I:Inv X pins σ H s) (hg:Gl X x) (hm:X.mg x=none) (hv:bootBuiltins x=some u) (h:Q u s)
  (hn:x≠"__name__":=by decide) (hd:(x == ("__debug__":Str))=false:=by decide):wpAny (model X.prog X.w) X.A (eval (.Name x pos) X.env) Q E s:=by
 obtain⟨mb,h1,h2⟩:=I.mod.blt
 exact Calls.Name_function_global I.ok.kind hg (Calls.loadGlobal_builtin (by rw[I.ok.glob];exact I.mod.glob.keeps I.bk) hm (by rw[I.ok.blt];exact h1.keeps I.bk) ((h2 x hn).trans hv) h) hd
theorem lQ {x:Str} {v:V} {u:Value} {pos:Pos} (hg:Gl X x) (hm:X.mg x=some u) (r:RelV v u) (hd:(x == ("__debug__":Str))=false:=by decide):PE X (.Name x pos) (tC v):=
 fun _ _ _ H _ I h=>el I hg hm ⟨v,H,I,r,h⟩ hd
theorem va {x:Str} {v:V} {u:Value} {pos:Pos} (hg:Gl X x) (hm:X.mg x=none) (hv:bootBuiltins x=some u) (r:RelV v u) (hn:x≠"__name__":=by decide) (hd:(x == ("__debug__":Str))=false:=by decide):PE X (.Name x pos) (tC v):=
 fun _ _ _ H _ I h=>iV I hg hm hv ⟨v,H,I,r,h⟩ hn hd
def t2I (ta tb:TE) (k:Int→Int→Hp→Prop):St→Hp→Prop:=fun σ H=>ta σ H fun x H1=>tb σ H1 fun y H2=>∃ i j,x=.int i∧y=.int j∧k i j H2
def DV (ta tb:TE):TE:=fun σ H Q=>t2I ta tb (fun i j H2=>Q (.int (i + j)) H2) σ H
def DK (ta tb:TE):TE:=fun σ H Q=>t2I ta tb (fun i j H2=>Q (.int (i - j)) H2) σ H
def DO (ta tb:TE):TE:=fun σ H Q=>t2I ta tb (fun i j H2=>(-(2 ^ 64) < i∧i < 2 ^ 64)∧Q (.int (i * j)) H2) σ H
variable {a b:Expr} {ta tb:TE} {pos:Pos}
def PC (X:Cx) (op:CmpOp) (a b:Expr) (t:TE):Prop:=
 ∀ (pins:List (Addr×Obj)) (s:Shared) (σ:St) (H:Hp) (Q:VK),Inv X pins σ H s→t σ H Q→
  wpAny (model X.prog X.w) X.A (eval a X.env) (fun v s₁=>wpAny (model X.prog X.w) X.A (eval b X.env) (fun u s₂=>wpAny (model X.prog X.w) X.A (compareOp op v u) (EP X pins σ Q) X.xe s₂) X.xe s₁) X.xe s
def ql (p:Int→Int→Bool) (ta tb:TE):TE:=fun σ H Q=>t2I ta tb (fun i j H2=>Q (.bl (p i j)) H2) σ H
abbrev tLt:TE→TE→TE:=ql fun i j=>decide (i < j)
abbrev tLe:TE→TE→TE:=ql fun i j=>decide (i≤j)
abbrev tGt:TE→TE→TE:=ql fun i j=>decide (j < i)
abbrev tGe:TE→TE→TE:=ql fun i j=>decide (j≤i)
abbrev DQ:TE→TE→TE:=ql fun i j=>decide (i=j)
abbrev DN:TE→TE→TE:=ql fun i j=>!decide (i=j)
def DP (ta:TE):TE:=fun σ H Q=>ta σ H fun x H1=>Q (.bl (decide (x=.non))) H1
def Dm (ta:TE):TE:=fun σ H Q=>ta σ H fun x H1=>Q (.bl (!decide (x=.non))) H1
def tB (t:TE):TT:=fun σ H Q=>t σ H fun x H1=>∃ c,x=.bl c∧Q c H1
theorem Cs {op:CmpOp} {t:TE} (h:PC X op a b t) (h1:behindInMarks op b=false:=by first | exact nobehind _ (by decide) (by decide) | rfl):PT X (.Compare a [op] [b] pos) (tB t):=by
 intro pins s σ H Q I hw
 refine wpAny_isTrue_Compare1 (thn (h pins s σ H _ I hw) fun v s1 h1=>thn h1 fun u s2 h2=>thn h2 fun c s3 ⟨x,H1,I1,r1,q1⟩=>?_) h1
 obtain⟨d,rfl,q⟩:=q1
 cases r1
 exact wpAny_truthy_bool ⟨H1,I1,q⟩
theorem xV {e:Expr} {t:TE} (h:PE X e t) (he:∀ whole,isTrue e X.env whole=(do let v ← whole;standAt e.pos;holding [v] (truthy v)):=by intro _;rfl):PT X e (tB t):=by
 intro pins s σ H Q I hw
 refine isTrue_plain (thn (h pins s σ H _ I hw) fun v s1 ⟨x,H1,I1,r1,q1⟩=>?_) (he _)
 obtain⟨d,rfl,q⟩:=q1
 cases r1
 exact wpAny_truthy_bool ⟨H1,I1,q⟩
variable {tA tB':TT} {rest:List Expr}
def xC (t u:TT):TT:=fun σ H Q=>t σ H fun c H1=>if c=true then u σ H1 Q else Q false H1
def tOr (t u:TT):TT:=fun σ H Q=>t σ H fun c H1=>if c=true then Q true H1 else u σ H1 Q
def xA (t:TT):TT:=fun σ H Q=>t σ H fun c H1=>Q (!c) H1
theorem uO (ha:PT X a tA):PW X (.BoolOp .And [a] pos) tA:=by
 intro wh pins s σ H Q I h
 refine isTrue_and (thn (ha pins s σ H Q I h) fun c s1 e=>?_)
 cases c with
 | true=>exact isTrue_and_nil e
 | false=>exact e
theorem xT (ha:PT X a tA):PW X (.BoolOp .Or [a] pos) tA:=by
 intro wh pins s σ H Q I h
 refine isTrue_or (thn (ha pins s σ H Q I h) fun c s1 e=>?_)
 cases c with
 | false=>exact isTrue_or_nil e
 | true=>exact e
theorem xU (ha:PT X a tA) (hb:PW X (.BoolOp .And (b::rest) pos) tB'):PW X (.BoolOp .And (a::b::rest) pos) (xC tA tB'):=by
 intro wh pins s σ H Q I h
 refine isTrue_and (thn (ha pins s σ H _ I h) fun c s1 ⟨H1,I1,q1⟩=>?_)
 cases c with
 | true=>exact hb wh pins s1 σ H1 Q I1 q1
 | false=>exact⟨H1,I1,q1⟩
theorem Aw (ha:PT X a tA) (hb:PW X (.BoolOp .Or (b::rest) pos) tB'):PW X (.BoolOp .Or (a::b::rest) pos) (tOr tA tB'):=by
 intro wh pins s σ H Q I h
 refine isTrue_or (thn (ha pins s σ H _ I h) fun c s1 ⟨H1,I1,q1⟩=>?_)
 cases c with
 | true=>exact⟨H1,I1,q1⟩
 | false=>exact hb wh pins s1 σ H1 Q I1 q1
theorem xW (ha:PT X a tA):PT X (.UnaryOp .Not a pos) (xA tA):=by
 intro pins s σ H Q I h
 exact isTrue_not (ha pins s σ H (fun c H1=>Q (!c) H1) I h)
def wy (ta tb:TE):TE:=fun σ H Q=>ta σ H fun x H1=>∃ c,x=.bl c∧if c=true then tb σ H1 Q else Q (.bl false) H1
def DM (ta tb:TE):TE:=fun σ H Q=>ta σ H fun x H1=>∃ c,x=.bl c∧if c=true then Q (.bl true) H1 else tb σ H1 Q
def Dl (ta:TE):TE:=fun σ H Q=>ta σ H fun x H1=>∃ c,x=.bl c∧Q (.bl (!c)) H1
theorem yc {op} {t:TE} (h:PE X a t):PE X (.BoolOp op [a] pos) t:=fun pins s σ H Q I hw=>BoolOp_one (h pins s σ H Q I hw)
theorem yg (ha:PE X a ta) (hb:PE X (.BoolOp .And (b::rest) pos) tb):PE X (.BoolOp .And (a::b::rest) pos) (wy ta tb):=by
 intro pins s σ H Q I h
 refine BoolOp_and (thn (ha pins s σ H _ I h) fun v s1 ⟨x,H1,I1,r1,q1⟩=>?_)
 obtain⟨c,rfl,q1⟩:=q1
 cases r1
 refine wpAny_truthy_bool ?_
 cases c with
 | true=>exact hb pins s1 σ H1 Q I1 q1
 | false=>exact⟨.bl false,H1,I1,rfl,q1⟩
def tIf (t:TT) (ta tb:TE):TE:=fun σ H Q=>t σ H fun c H1=>if c=true then ta σ H1 Q else tb σ H1 Q
end
end L2
namespace L2
open PySem PySem.Spec PyProof.Rows
def SqL (K:PySem.W.Frag) (H:Hp) (a:Addr) (xs:List V):Prop:=
 Rd H a (.lst xs)∨
  ∃ (o:Obj) (its:Array Value) (n:Nat),K.lookup a=some o∧o.cls=.type "list"∧o.dict=none∧o.data=.seq its n∧its.size≤sizeLine∧Vals xs its.toList
def SqT (K:PySem.W.Frag) (H:Hp) (a:Addr) (xs:List V):Prop:=
 Rd H a (.tup xs)∨
  ∃ (o:Obj) (its:Array Value) (n:Nat),K.lookup a=some o∧o.cls=.type "tuple"∧o.data=.seq its n∧its.size≤sizeLine∧Vals xs its.toList
def C_:Value→Option V
 | .none=>some .non
 | .bool b=>some (.bl b)
 | .int i _=>some (.int i)
 | .str x _=>some (.str x)
 | .bytes b _=>some (.byt b)
 | .float b _=>some (.flt b)
 | .ref a=>some (.ref a)
 | .type n=>some (.ty n)
 | _=>none
theorem RelV.abs {x:V} {u:Value} (r:RelV x u):C_ u=some x:=by
 cases x with
 | non=>cases r;rfl
 | bl _=>cases r;rfl
 | int _=>obtain⟨t,rfl⟩:=r;rfl
 | str _=>obtain⟨t,rfl⟩:=r;rfl
 | byt _=>obtain⟨t,rfl⟩:=r;rfl
 | flt _=>obtain⟨t,rfl⟩:=r;rfl
 | ref _=>cases r;rfl
 | ty _=>cases r;rfl
theorem RelV.inj {x y:V} {u:Value} (r:RelV x u) (q:RelV y u):x=y:=Option.some.inj (r.abs.symm.trans q.abs)
theorem Vals.inj:∀ {xs ys:List V} {us:List Value},Vals xs us→Vals ys us→xs=ys
 | _,_,_,.nil,.nil=>rfl
 | _,_,_,.cons r t,.cons r' t'=>by rw[r.inj r',Vals.inj t t']
section
variable {X:Cx} {pins:List (Addr×Obj)} {σ:St} {H:Hp} {s:Shared} {a:Addr} {xs ys:List V}
theorem SqL.of {K:PySem.W.Frag} (h:H a=some (.lst xs)):SqL K H a xs:=.inl (.inl h)
theorem SqT.of {K:PySem.W.Frag} (h:H a=some (.tup xs)):SqT K H a xs:=.inl (.inl h)
theorem Inv.list (I:Inv X pins σ H s) (h:SqL X.K H a xs):∃ its:List Value,Vals xs its∧PlainL s.heap a its.toArray∧xs.length≤sizeLine:=by
 rcases h with h | ⟨o,its,n,hk,hc,hd,hs,hz,r⟩
 ·obtain⟨z,its,n,r,e⟩:=h.ok I.hok
  exact⟨its,r,⟨_,n,e,rfl,rfl,rfl⟩,z⟩
 ·refine⟨its.toList,r,⟨o,n,I.kIn a o hk,hc,hd,by simpa using hs⟩,?_⟩
  have e:=r.length
  simp only[Array.length_toList] at e
  omega
theorem Inv.tuple (I:Inv X pins σ H s) (h:SqT X.K H a xs):∃ its:List Value,Vals xs its∧IsTup s.heap a its.toArray∧xs.length≤sizeLine:=by
 rcases h with h | ⟨o,its,n,hk,hc,hs,hz,r⟩
 ·obtain⟨z,its,r,p⟩:=h.ok I.hok
  exact⟨its,r,p,z⟩
 ·refine⟨its.toList,r,⟨o,I.kIn a o hk,hc,n,by simpa using hs⟩,?_⟩
  have e:=r.length
  simp only[Array.length_toList] at e
  omega
theorem Inv.sQ (I:Inv X pins σ H s) (h:SqL X.K H a xs) (h':SqL X.K H a ys):xs=ys:=by
 obtain⟨its,r,⟨o,n,e,_,_,d⟩,_⟩:=I.list h
 obtain⟨its',r',⟨o',n',e',_,_,d'⟩,_⟩:=I.list h'
 rw[e] at e';cases e'
 rw[d] at d'
 injection d' with d1 _
 have:its=its':=by simpa using congrArg Array.toList d1
 subst this
 exact r.inj r'
theorem Inv.qk (I:Inv X pins σ H s) (h:SqT X.K H a xs) (h':SqT X.K H a ys):xs=ys:=by
 obtain⟨its,r,⟨o,e,_,n,d⟩,_⟩:=I.tuple h
 obtain⟨its',r',⟨o',e',_,n',d'⟩,_⟩:=I.tuple h'
 rw[e] at e';cases e'
 rw[d] at d'
 injection d' with d1 _
 have:its=its':=by simpa using congrArg Array.toList d1
 subst this
 exact r.inj r'
end
abbrev Cx.e_ (X:Cx) (E:Value→Shared→Prop):Cx:={ X with xe:=E }
abbrev Cx.nox (X:Cx):Cx:=X.e_ fun _ _=>False
theorem Cx.Ok.e_ {X:Cx} (ok:X.Ok) (E:Value→Shared→Prop):(X.e_ E).Ok:=
 ⟨ok.mod,ok.kind,ok.glob,ok.blt,ok.above,ok.inj,ok.has,ok.cab,ok.hd,ok.frames,ok.stk,ok.exf,ok.bs,ok.bsz,ok.noex,ok.exfs,ok.eZ,ok.frf⟩
theorem Cx.Ok.bZ {X:Cx} {E:Value→Shared→Prop} (ok:(X.e_ E).Ok):X.Ok:=
 ⟨ok.mod,ok.kind,ok.glob,ok.blt,ok.above,ok.inj,ok.has,ok.cab,ok.hd,ok.frames,ok.stk,ok.exf,ok.bs,ok.bsz,ok.noex,ok.exfs,ok.eZ,ok.frf⟩
section
variable {X:Cx} {pins:List (Addr×Obj)} {σ:St} {H:Hp} {s:Shared} {E:Value→Shared→Prop}
theorem Inv.e_ (I:Inv X pins σ H s) (E:Value→Shared→Prop):Inv (X.e_ E) pins σ H s:=⟨I.ok.e_ E,I.os,I.bare,I.base,I.loc,I.cell,I.free,I.freeC,I.pin,I.hok,I.len⟩
theorem Inv.bZ (I:Inv (X.e_ E) pins σ H s):Inv X pins σ H s:=⟨I.ok.bZ,I.os,I.bare,I.base,I.loc,I.cell,I.free,I.freeC,I.pin,I.hok,I.len⟩
theorem SP.bZ {D:Ends} {f:Flow} {s':Shared} (h:SP (X.e_ E) pins D f s'):SP X pins D f s':=by
 cases f with
 | next=>obtain⟨σ',H',I,q⟩:=h;exact⟨σ',H',I.bZ,q⟩
 | brk=>obtain⟨σ',H',I,q⟩:=h;exact⟨σ',H',I.bZ,q⟩
 | cont=>obtain⟨σ',H',I,q⟩:=h;exact⟨σ',H',I.bZ,q⟩
 | ret u=>obtain⟨v,σ',H',I,r,q⟩:=h;exact⟨v,σ',H',I.bZ,r,q⟩
theorem PSs.nox {st:List Stmt} {t:TS} (h:PSs X.nox st t):PSs X st t:=fun pins s σ H D I hw=>
 wpAny_mono (h pins s σ H D (I.e_ _) hw) (fun _ _ q=>q.bZ) fun _ _ z=>False.elim z
end
section
variable {X:Cx} {st:Stmt} {rest:List Stmt} {t u:TS} {e:Expr} {te:TE} {pos:Pos}
def wx:TS:=fun D σ H=>D.nx σ H
def xy (t u:TS):TS:=fun D σ H=>t { D with nx:=u D } σ H
theorem uQ:PSs X [] wx:=fun _ _ σ H _ I h=>wpAny_execs_nil ⟨σ,H,I,h⟩
theorem jW (h1:PS X st t) (h2:PSs X rest u):PSs X (st::rest) (xy t u):=by
 intro pins s σ H D I h
 refine wpAny_execs_cons (thn (h1 pins s σ H { D with nx:=u D } I h) fun f s1 q=>?_)
 cases f with
 | next=>
  obtain⟨σ',H',I',q⟩:=q
  exact h2 pins s1 σ' H' D I' q
 | ret v=>exact q
 | brk=>exact q
 | cont=>exact q
theorem jE (h1:PS X st t):PSs X [st] t:=by
 intro pins s σ H D I h
 refine wpAny_execs_cons (thn (h1 pins s σ H D I h) fun f s1 q=>?_)
 cases f with
 | next=>exact wpAny_execs_nil q
 | ret v=>exact q
 | brk=>exact q
 | cont=>exact q
def Cf:TS:=fun D σ H=>D.bk σ H
def Dq:TS:=fun D σ H=>D.ct σ H
theorem Inv.quiet {pins:List (Addr×Obj)} {σ:St} {H:Hp} {s:Shared} (I:Inv X pins σ H s):interactive X.env=false:=by simp [interactive,I.ok.kind]
def rq (te:TE):TS:=fun D σ H=>te σ H fun _ H1=>D.nx σ H1
theorem jF (he:PE X e te) (hs:swapsWith e none pos.line X.env=pure false:=by rfl):PS X (.Expr e pos) (rq te):=by
 intro pins s σ H D I h
 exact wpAny_Expr_any (thn (he pins s σ H _ I h) fun v s1 ⟨x,H1,I1,r1,q1⟩=>⟨σ,H1,I1,q1⟩) I.quiet hs
def zV (te:TE):TS:=fun D σ H=>te σ H D.rt
theorem xZ (he:PE X e te):PS X (.Return (some e) pos) (zV te):=by
 intro pins s σ H D I h
 exact wpAny_Return_some (thn (he pins s σ H _ I h) fun v s1 ⟨x,H1,I1,r1,q1⟩=>⟨x,σ,H1,I1,r1,q1⟩)
def Dj:TS:=fun D _ H=>D.rt .non H
def xB (c:TT) (t u:TS):TS:=fun D σ H=>c σ H fun b H1=>if b=true then t D σ H1 else u D σ H1
theorem wz {c:Expr} {a b:List Stmt} {tc:TT} (hc:PT X c tc) (ha:PSs X a t) (hb:PSs X b u):PS X (.If c a b pos) (xB tc t u):=by
 intro pins s σ H D I h
 refine wpAny_If (thn (hc pins s σ H _ I h) fun d s1 ⟨H1,I1,q1⟩=>?_)
 cases d with
 | true=>exact ha pins s1 σ H1 D I1 q1
 | false=>exact hb pins s1 σ H1 D I1 q1
def rn:TS:=fun _ _ _=>False
theorem rX:PS X st rn:=fun _ _ _ _ _ _ h=>h.elim
end
abbrev TG:=V→St→Hp→(St→Hp→Prop)→Prop
abbrev TGs:=List V→St→Hp→(St→Hp→Prop)→Prop
def PG (X:Cx) (target:Expr) (t:TG):Prop:=
 ∀ (pins:List (Addr×Obj)) (s:Shared) (σ:St) (H:Hp) (v:V) (u:Value) (Q:St→Hp→Prop),Inv X pins σ H s→RelV v u→t v σ H Q→
  wpAny (model X.prog X.w) X.A (assign target X.env u) (fun _ s'=>∃ σ' H',Inv X pins σ' H' s'∧Q σ' H') X.xe s
def PGs (X:Cx) (ts:List Expr) (t:TGs):Prop:=
 ∀ (pins:List (Addr×Obj)) (s:Shared) (σ:St) (H:Hp) (vs:List V) (us:List Value) (Q:St→Hp→Prop),Inv X pins σ H s→Vals vs us→t vs σ H Q→
  wpAny (model X.prog X.w) X.A (assignInOrder ((assignEach ts X.env).map (·.2)) us) (fun _ s'=>∃ σ' H',Inv X pins σ' H' s'∧Q σ' H') X.xe s
abbrev wk:=V→V→V→Hp→(Hp→Prop)→Prop
def BR (X:Cx) (t:wk):Prop:=
 ∀ (pins:List (Addr×Obj)) (s:Shared) (σ:St) (H:Hp) (o i v:V) (ov iv u:Value) (Q:Hp→Prop),Inv X pins σ H s→RelV o ov→RelV i iv→RelV v u→t o i v H Q→
  wpAny (model X.prog X.w) X.A (setItem ov iv u) (fun _ s'=>∃ H',Inv X pins σ H' s'∧Q H') X.xe s
abbrev TIp:=V→V→Hp→VK→Prop
def PIp (X:Cx) (op:Operator) (t:TIp):Prop:=
 ∀ (pins:List (Addr×Obj)) (s:Shared) (σ:St) (H:Hp) (x y:V) (v u:Value) (Q:VK),Inv X pins σ H s→RelV x v→RelV y u→t x y H Q→
  wpAny (model X.prog X.w) X.A (inplaceOp op v u) (EP X pins σ Q) X.xe s
section
variable {X:Cx} {pos:Pos}
def jh (i:Nat):TG:=fun v σ H Q=>Q (σ.set i (some v)) H
theorem iq {i:Nat} {x:Str} (hN:X.N.Nodup) (hi:X.N[i]?=some x) (hx:Loc X.env.scope x) (hf:X.fn x=true∨X.env.scope.names.lookup x=some .local:=by first | exact .inl rfl | exact .inr rfl | assumption):PG X (.Name x pos) (jh i):=by
 intro pins s σ H v u Q I r h
 exact wpAny_assign_Name (fe I hN hi hx r (fun s' I'=>⟨_,H,I',h⟩) hf)
def Bc:TGs:=fun vs σ H Q=>vs=[]∧Q σ H
def wZ (t:TG) (u:TGs):TGs:=fun vs σ H Q=>∃ v r,vs=v::r∧t v σ H fun σ' H'=>u r σ' H' Q
theorem pK:PGs X [] Bc:=by
 intro pins s σ H vs us Q I r h
 obtain⟨e,h⟩:=h
 subst e
 cases r
 exact assignInOrder_nil ⟨σ,H,I,h⟩
theorem ip {e:Expr} {es:List Expr} {t:TG} {u:TGs} (h1:PG X e t) (h2:PGs X es u)
  (hs:(assignEach (e::es) X.env).map (·.2)=assign e X.env::(assignEach es X.env).map (·.2):=by rfl):PGs X (e::es) (wZ t u):=by
 intro pins s σ H vs us Q I r h
 obtain⟨v,vr,e1,h⟩:=h
 subst e1
 cases r with
 | cons r rr=>
  rw[hs]
  refine assignInOrder_cons (thn (h1 pins s σ H _ _ _ I r h) fun _ s1 ⟨σ1,H1,I1,q1⟩=>?_)
  exact h2 pins s1 σ1 H1 _ _ Q I1 rr q1
def Bb (K:PySem.W.Frag) (n:Nat) (t:TGs):TG:=fun v σ H Q=>∃ a xs,v=.ref a∧SqT K H a xs∧xs.length=n∧t xs σ H Q
theorem x_ {es:List Expr} {k:Nat} {t:TGs} {n:Nat} (hc:X.calm=true) (h:PGs X es t)
  (hn:(assignEach es X.env).length=n:=by rfl) (hst:(assignEach es X.env).findIdx? (·.1)=none:=by rfl):PG X (.Tuple es k pos) (Bb X.K n t):=by
 intro pins s σ H v u Q I r hw
 obtain⟨a,xs,e1,hq,hl,hw⟩:=hw
 subst e1
 cases r
 obtain⟨its,rv,ht,hz⟩:=I.tuple hq
 refine assign_Tuple_tuple (I.ok.hd hc) ht (by simp [hn,← hl,rv.length]) hst fun h' hx=>?_
 have I1:Inv X pins σ H { s with heap:=h' }:=I.kept (t':=s.toks) fun b o e=>hx b o (Nat.ne_of_lt (Heap.lt_size e)) e
 exact h pins _ σ H xs _ Q I1 (by simpa using rv) hw
def vN (to ti:TE) (t:wk):TG:=fun v σ H Q=>to σ H fun o H1=>ti σ H1 fun i H2=>t o i v H2 fun H3=>Q σ H3
theorem ya {o i:Expr} {to ti:TE} {t:wk} (ho:PE X o to) (hi:PE X i ti) (hs:BR X t)
  (ha:∀ v,assign (.Subscript o i pos) X.env v=(do
   let ov ← holding [v] (eval o X.env)
   let iv ← holding [v,ov] (eval i X.env)
   standAt pos
   holding [v,ov,iv] (setItem ov iv v)
   release [v,ov,iv] []):=by intro _;rfl):PG X (.Subscript o i pos) (vN to ti t):=by
 intro pins s σ H v u Q I r h
 rw[ha]
 refine wpAny_bind (wpAny_holding (thn (ho pins s σ H _ I h) fun ov s1 ⟨x,H1,I1,r1,q1⟩=>?_))
 refine wpAny_bind (wpAny_holding (thn (hi pins s1 σ H1 _ I1 q1) fun iv s2 ⟨y,H2,I2,r2,q2⟩=>?_))
 refine wpAny_bind (wpAny_standAt (wpAny_bind (wpAny_holding (thn (hs pins s2 σ H2 x y v ov iv u _ I2 r1 r2 r q2) fun _ s3 ⟨H3,I3,q3⟩=>?_))))
 exact wpAny_release ⟨σ,H3,I3,q3⟩
def lB (te:TE) (g:TG):TS:=fun D σ H=>te σ H fun x H1=>g x σ H1 D.nx
theorem x6 {tg e:Expr} {te:TE} {g:TG} (he:PE X e te) (hg:PG X tg g) (hs:swapsWithSole [tg] e pos.line X.env=pure false:=by rfl) (hw:swappedStores [tg] e X.env=pure none:=by rfl)
  (h1:(assignEach [tg] X.env).map (·.2)=[assign tg X.env]:=by rfl):PS X (.Assign [tg] e pos) (lB te g):=by
 intro pins s σ H D I h
 refine wpAny_Assign_stores (thn (he pins s σ H _ I h) fun v s1 ⟨x,H1,I1,r1,q1⟩=>?_) hs hw
 rw[h1]
 exact thn (hg pins s1 σ H1 x v _ I1 r1 q1) fun _ s2 q=>q
theorem xY {i:Nat} {x:Str} {e:Expr} {te:TE} {pos':Pos} (hN:X.N.Nodup) (hi:X.N[i]?=some x) (hx:Loc X.env.scope x) (he:PE X e te) (hs:swapsWith e (some (.Name x pos')) pos.line X.env=pure false:=by rfl) (hf:X.fn x=true∨X.env.scope.names.lookup x=some .local:=by first | exact .inl rfl | exact .inr rfl | assumption) :
  PS X (.Assign [.Name x pos'] e pos) (lB te (jh i)):=by
 intro pins s σ H D I h
 refine wpAny_Assign_Name (thn (he pins s σ H _ I h) fun v s1 ⟨y,H1,I1,r1,q1⟩=>?_) hs
 exact fe I1 hN hi hx r1 (fun s2 I2=>⟨_,H1,I2,q1⟩) hf
def zW (i j:Nat) (ta:TA):TS:=fun D σ H=>ta σ H fun vs H1=>∃ v w,vs=[v,w]∧D.nx ((σ.set i (some v)).set j (some w)) H1
theorem x3 {i j:Nat} {x y:Str} {a b:Expr} {ta:TA} {px py pt:Pos} {kt k2 pt2} (hc:X.calm=true) (hN:X.N.Nodup) (hi:X.N[i]?=some x) (hj:X.N[j]?=some y) (hij:i≠j)
  (hx:X.env.scope.names.lookup x=some .local) (hy:X.env.scope.names.lookup y=some .local) (ha:PA X [a,b] ta)
  (hw:swappedStores [.Tuple [.Name x px,.Name y py] kt pt] (.Tuple [a,b] k2 pt2) X.env=pure (some [x,y]))
  (hs:swapsWithSole [.Tuple [.Name x px,.Name y py] kt pt] (.Tuple [a,b] k2 pt2) pos.line X.env=pure false:=by rfl) :
  PS X (.Assign [.Tuple [.Name x px,.Name y py] kt pt] (.Tuple [a,b] k2 pt2) pos) (zW i j ta):=by
 intro pins s σ H D I h
 rw[exec_Assign_arm]
 refine wpAny_bind (wpAny_standAt ?_)
 rw[hs]
 refine wpAny_bind (wpAny_pure ?_)
 rw[if_neg (by decide)]
 refine wpAny_bind (Tuple_ (thn (ha _ pins s σ H _ I h) fun us s1 ⟨vs,H1,I1,r1,q1⟩=>?_))
 obtain⟨v,w,e1,q1⟩:=q1
 subst e1
 obtain⟨u1,u2,rfl,rv,rw'⟩:∃ u1 u2,us=[u1,u2]∧RelV v u1∧RelV w u2:=by
  cases r1 with
  | cons p q=>
   cases q with
   | cons p' q'=>
    cases q'
    exact⟨_,_,rfl,p,p'⟩
 refine wpAny_newObj_type ?_ (by show 2≤sizeLine;decide)
 have I2:Inv X pins σ H1 { s1 with heap:=s1.heap.push { cls:=.type "tuple",data:=.seq [u1,u2].toArray } }:=I1.kept (t':=s1.toks) fun b o e=>Heap.get?_push_of_some _ e
 rw[hw]
 refine wpAny_bind (wpAny_pure ?_)
 show wpAny (model X.prog X.w) X.A (do rule "assign.swapped-stores";let items ← unpackItems (.ref s1.heap.objs.size) 2 none;assignInOrder [fun v=>bindName X.env y v,fun v=>bindName X.env x v] items.reverse;pure Flow.next) _ _ _
 refine wpAny_bind (wpAny_rule (wpAny_bind (unpackItems_tuple (items:=#[u1,u2]) (I.ok.hd hc) (IsTup.new s1.heap _) fun h' hx'=>?_)))
 have I3:=I2.kept (h':=h') (t':=s1.toks) fun b o e=>hx' b o (Nat.ne_of_lt (Heap.lt_size e)) e
 show wpAny _ _ (assignInOrder [fun v=>bindName X.env y v,fun v=>bindName X.env x v] [u2,u1] >>= fun _=>pure Flow.next) _ _ _
 refine wpAny_bind (assignInOrder_cons (wpAny_bindName (fe I3 hN hj (.inl hy) rw' (fun s2 I4=>?_) (.inr hy))))
 refine assignInOrder_cons (wpAny_bindName (fe I4 hN hi (.inl hx) rv (fun s3 I5=>assignInOrder_nil (wpAny_pure ?_)) (.inr hx)))
 rw[List.set_comm _ _ (Ne.symm hij)] at I5
 exact⟨_,H1,I5,q1⟩
def DU (i:Nat) (te:TE) (ti:TIp):TS:=fun D σ H=>∃ x,σ[i]?=some (some x)∧te σ H fun y H1=>ti x y H1 fun z H2=>D.nx (σ.set i (some z)) H2
def Dr (to ti te:TE) (tget:V→V→Hp→VK→Prop) (tip:TIp) (tset:wk):TS:=fun D σ H=>to σ H fun o H1=>ti σ H1 fun i H2=>tget o i H2 fun x H3=>te σ H3 fun y H4=>tip x y H4 fun z H5=>tset o i z H5 fun H6=>D.nx σ H6
def Ec (X:Cx) (t:V→V→Hp→VK→Prop):Prop:=
 ∀ (pins:List (Addr×Obj)) (s:Shared) (σ:St) (H:Hp) (o i:V) (ov iv:Value) (Q:VK),Inv X pins σ H s→RelV o ov→RelV i iv→t o i H Q→
  wpAny (model X.prog X.w) X.A (getItem ov iv) (EP X pins σ Q) X.xe s
def ipI (f:Int→Int→Int):TIp:=fun x y H Q=>∃ i j,x=.int i∧y=.int j∧Q (.int (f i j)) H
end
section
variable {X:Cx} {pos:Pos}
def rm (c:TT) (tb:TS):TS:=fun D σ H=>∃ W:Nat→St→Hp→Prop,(∃ m,W m σ H)∧∀ m σ H,W m σ H→
 c σ H fun b H1=>if b=true then ∃ N:St→Hp→Prop,(∀ σ' H',N σ' H'→∃ m',m' < m∧W m' σ' H')∧tb { D with nx:=N,ct:=N,bk:=D.nx } σ H1 else D.nx σ H1
theorem rV {c:Expr} {body:List Stmt} {tc:TT} {tb:TS} (hp:PassesOwn (model X.prog X.w) X.A X.env X.xe) (hc:PT X c tc) (hb:PSs X body tb):PS X (.While c body [] pos) (rm tc tb):=by
 intro pins s σ H D I h
 obtain⟨W,⟨m0,w0⟩,turn⟩:=h
 refine wpAny_While (codeAny_whileLoop (fun n s'=>∃ σ' H',Inv X pins σ' H' s'∧W n σ' H') ?_ m0 ⟨σ,H,I,w0⟩)
 rintro n s1 ⟨σ1,H1,I1,w1⟩
 refine wpAny_passesOwn hp (thn (hc pins s1 σ1 H1 _ I1 (turn n σ1 H1 w1)) fun b s2 ⟨H2,I2,q2⟩=>?_)
 cases b with
 | true=>
  obtain⟨N,hN,q2⟩:=q2
  rw[if_pos rfl]
  refine wpAny_passesOwn hp (thn (hb pins s2 σ1 H2 _ I2 q2) fun f s3 q3=>?_)
  cases f with
  | next=>
   obtain⟨σ3,H3,I3,n3⟩:=q3
   obtain⟨m',hm,w3⟩:=hN σ3 H3 n3
   exact⟨m',hm,σ3,H3,I3,w3⟩
  | cont=>
   obtain⟨σ3,H3,I3,n3⟩:=q3
   obtain⟨m',hm,w3⟩:=hN σ3 H3 n3
   exact⟨m',hm,σ3,H3,I3,w3⟩
  | brk=>exact q3
  | ret v=>exact q3
 | false=>
  rw[if_neg Bool.false_ne_true]
  exact wpAny_execs_nil ⟨σ1,H2,I2,q2⟩
end
structure It where
 go:Nat→Hp→Prop
 yld:Nat→Hp→V→Hp→Prop
 stop:Nat→Hp→Prop
def i_ (X:Cx) (pins:List (Addr×Obj)) (H:Hp) (b:Addr):Prop:=
 H b=none∧b≠X.env.locals∧b∉X.fs∧(b∈X.ex∨X.s₀.heap.objs.size≤b)∧(∀ x c,X.env.cells.lookup x=some c→c≠b)∧∀ p∈X.pn++pins,p.1≠b
theorem Inv.oR {X:Cx} {pins:List (Addr×Obj)} {σ:St} {H H':Hp} {s:Shared} {b:Addr} (I:Inv X pins σ H s) (hb:s.heap.objs.size≤b) (hn:H' b=none):i_ X pins H' b:=by
 refine⟨hn,Nat.ne_of_gt (Nat.lt_of_lt_of_le I.lt hb),I.Cy hb,.inr (Nat.le_trans I.sz hb),fun x c e z=>?_,fun p hp z=>?_⟩
 ·obtain⟨v,q⟩:=I.cell x c e
  exact absurd (Nat.lt_of_lt_of_le q.lt (by rw[z];exact hb)) (Nat.lt_irrefl _)
 ·exact absurd (Nat.lt_of_lt_of_le (Heap.lt_size (I.pin p hp).1) (by rw[z];exact hb)) (Nat.lt_irrefl _)
structure Turn (P:Program) (w:World) (K:PySem.W.Frag) (tg:Expr) (J:It) (fp:List Addr) (it:Addr) (tn:Nat→Heap→Prop):Prop where
 mem:it∈fp
 obj:∀ i h,tn i h→∀ b∈fp,∃ o,h.get? b=some o∧∀ v,o.data≠.cell v
 keep:∀ i h h',tn i h→(∀ b∈fp,∀ o,h.get? b=some o→h'.get? b=some o)→tn i h'
 item:∀ (X:Cx),X.prog=P→X.w=w→X.K=K→X.calm=true→∀ (i:Nat) (pins:List (Addr×Obj)) (s:Shared) (σ:St) (H:Hp) (E:Value→Shared→Prop),Inv X pins σ H s→(∀ b∈fp,i_ X pins H b)→tn i s.heap→J.go i H→
  wpAny (model P w) X.A (pyNext (.ref it)) (fun r s1=>∃ u,r=some u∧
   wpAny (model P w) X.A (letOwnedTupleGo tg (.ref it) u) (fun _ s2=>∃ x H',Inv X pins σ H' s2∧RelV x u∧J.yld i H x H'∧tn (i + 1) s2.heap∧∀ b∈fp,H' b=none) E s1) E s
 done:∀ (X:Cx),X.prog=P→X.w=w→X.K=K→X.calm=true→∀ (i:Nat) (pins:List (Addr×Obj)) (s:Shared) (σ:St) (H:Hp) (E:Value→Shared→Prop),Inv X pins σ H s→(∀ b∈fp,i_ X pins H b)→tn i s.heap→J.stop i H→
  wpAny (model P w) X.A (pyNext (.ref it)) (fun r s1=>r=none∧Inv X pins σ H s1) E s
 self:∀ (A:Around) (i:Nat) (s:Shared) (Q:Value→Shared→Prop) (E:Value→Shared→Prop),tn i s.heap→Q (.ref it) s→wpAny (model P w) A (pyIter (.ref it)) Q E s
abbrev TI:=St→Hp→(It→Hp→Prop)→Prop
def PIE (X:Cx) (pins:List (Addr×Obj)) (σ:St) (tg:Expr) (R:It→Hp→Prop) (itv:Value) (s2:Shared):Prop:=
 ∃ (it:Addr) (fp:List Addr) (tn:Nat→Heap→Prop) (J:It) (H':Hp),itv=.ref it∧Inv X pins σ H' s2∧Turn X.prog X.w X.K tg J fp it tn∧tn 0 s2.heap∧(∀ b∈fp,i_ X pins H' b)∧R J H'
def PI (X:Cx) (tg iter:Expr) (wi:TI):Prop:=
 ∀ (pins:List (Addr×Obj)) (s:Shared) (σ:St) (H:Hp) (R:It→Hp→Prop),Inv X pins σ H s→wi σ H R→
  wpAny (model X.prog X.w) X.A (eval iter X.env) (fun v s1=>wpAny (model X.prog X.w) X.A (pyIter v) (PIE X pins σ tg R) X.xe s1) X.xe s
theorem p3 {M:Model} {A:Around} {E:Value→Shared→Prop} {s:Shared} {tg:Expr} {it:Addr} {u:Value} {o:Obj} {n:String} {vs:Array Value} {Q:Unit→Shared→Prop} (ho:s.heap.get? it=some o) (hc:o.cls=.type n) (hd:o.data=.fields vs)
  (hn:["enumerate","zip","dict_itemiterator","dict_reverseitemiterator","odict_iterator","itertools.zip_longest","itertools.pairwise"].contains n=false) (hQ:Q () s):wpAny M A (letOwnedTupleGo tg (.ref it) u) Q E s:=by
 unfold letOwnedTupleGo
 cases tg <;> first
  | exact wpAny_pure hQ
  | (cases u <;> first
    | exact wpAny_pure hQ
    | (refine wpAny_bind (wpAny_load ho ?_);rw[hc,hd];show wpAny M A (if (["enumerate","zip","dict_itemiterator","dict_reverseitemiterator","odict_iterator","itertools.zip_longest","itertools.pairwise"].contains n && vs[0]? == some (rawInt _))=true then _ else _) Q E s;rw[if_neg (by intro h;rw[hn,Bool.false_and] at h;cases h)];exact wpAny_pure hQ))
def Itl (K:PySem.W.Frag) (a:Addr):It:=
 ⟨fun i H=>∃ xs x,SqL K H a xs∧xs[i]?=some x,fun i H x H'=>H'=H∧∀ xs,SqL K H a xs→xs[i]?=some x,fun i H=>∃ xs,SqL K H a xs∧xs.length≤i⟩
def Itt (K:PySem.W.Frag) (a:Addr):It:=
 ⟨fun i H=>∃ xs x,SqT K H a xs∧xs[i]?=some x,fun i H x H'=>H'=H∧∀ xs,SqT K H a xs→xs[i]?=some x,fun i H=>∃ xs,SqT K H a xs∧xs.length≤i⟩
def Itr (lo:Int) (n:Nat):It:=⟨fun i _=>i < n,fun i H x H'=>H'=H∧x=.int (lo + i),fun i _=>n≤i⟩
theorem qi {P:Program} {w:World} {K:PySem.W.Frag} {tg:Expr} (a it:Addr):Turn P w K tg (Itl K a) [it] it (fun i h=>h.IsListIter it a i) where
 mem:=by simp
 obj:=fun i h st b hb=>by
  have e:b=it:=by simpa using hb
  subst e
  obtain⟨o,e,c,d⟩:=st
  exact⟨o,e,fun v z=>by rw[d] at z;cases z⟩
 keep:=fun i h h' st k=>st.at fun o e=>k it (by simp) o e
 item:=by
  intro X hP hw hK hc i pins s σ H E I hf st hg
  subst hP hw hK
  obtain⟨xs,x,hq,hx⟩:=hg
  obtain⟨its,rv,p,hz⟩:=I.list hq
  obtain⟨u,hu,ru⟩:=rv.get hx
  obtain⟨f0,f1,f2,f3,f4,f5⟩:=hf it (by simp)
  refine wpAny_pyNext_list_item st p.isList (x:=u) (by simpa using hu) fun h' st' sb=>?_
  have I1:Inv X pins σ H { s with heap:=h' }:=I.turned (t':=s.toks) (fun b o hb e=>(sb.2 b hb).trans e) f0 f1 f3 f4 f5
  obtain⟨o,e,c,d⟩:=id st'
  exact⟨u,rfl,p3 (s:={ s with heap:=h' }) e c d (by decide) ⟨x,H,I1,ru,⟨rfl,fun ys hy=>by rw[I.sQ hy hq];exact hx⟩,st',fun b hb=>(hf b hb).1⟩⟩
 done:=by
  intro X hP hw hK hc i pins s σ H E I hf st hg
  subst hP hw hK
  obtain⟨xs,hq,hx⟩:=hg
  obtain⟨its,rv,p,hz⟩:=I.list hq
  obtain⟨f0,f1,f2,f3,f4,f5⟩:=hf it (by simp)
  have hl:=rv.length
  exact wpAny_pyNext_list_end (I.ok.hd hc) st p.isList (by simp;omega) fun h' eb=>⟨rfl,I.turned (t':=s.toks) (fun b o hb e=>eb b o hb e) f0 f1 f3 f4 f5⟩
 self:=fun _ _ _ _ _ st h=>wpAny_pyIter_listiter st h
theorem nU {P:Program} {w:World} {K:PySem.W.Frag} {tg:Expr} (a it:Addr):Turn P w K tg (Itt K a) [it] it (fun i h=>h.IsTupleIter it a i) where
 mem:=by simp
 obj:=fun i h st b hb=>by
  have e:b=it:=by simpa using hb
  subst e
  obtain⟨o,e,c,d⟩:=st
  exact⟨o,e,fun v z=>by rw[d] at z;cases z⟩
 keep:=fun i h h' st k=>st.at fun o e=>k it (by simp) o e
 item:=by
  intro X hP hw hK hc i pins s σ H E I hf st hg
  subst hP hw hK
  obtain⟨xs,x,hq,hx⟩:=hg
  obtain⟨its,rv,p,hz⟩:=I.tuple hq
  obtain⟨u,hu,ru⟩:=rv.get hx
  obtain⟨f0,f1,f2,f3,f4,f5⟩:=hf it (by simp)
  refine wpAny_pyNext_tuple_item st (show s.heap.IsTuple a its.toArray from p) (x:=u) (by simpa using hu) fun h' st' sb=>?_
  have I1:Inv X pins σ H { s with heap:=h' }:=I.turned (t':=s.toks) (fun b o hb e=>(sb.2 b hb).trans e) f0 f1 f3 f4 f5
  obtain⟨o,e,c,d⟩:=id st'
  exact⟨u,rfl,p3 (s:={ s with heap:=h' }) e c d (by decide) ⟨x,H,I1,ru,⟨rfl,fun ys hy=>by rw[I.qk hy hq];exact hx⟩,st',fun b hb=>(hf b hb).1⟩⟩
 done:=by
  intro X hP hw hK hc i pins s σ H E I hf st hg
  subst hP hw hK
  obtain⟨xs,hq,hx⟩:=hg
  obtain⟨its,rv,p,hz⟩:=I.tuple hq
  obtain⟨f0,f1,f2,f3,f4,f5⟩:=hf it (by simp)
  have hl:=rv.length
  exact wpAny_pyNext_tuple_end (I.ok.hd hc) st (show s.heap.IsTuple a its.toArray from p) (by simp;omega) fun h' eb=>⟨rfl,I.turned (t':=s.toks) (fun b o hb e=>eb b o hb e) f0 f1 f3 f4 f5⟩
 self:=fun _ _ _ _ _ st h=>wpAny_pyIter_tupleiter st h
theorem nV {P:Program} {w:World} {K:PySem.W.Frag} {tg:Expr} (it:Addr) (lo:Int) (n:Nat):Turn P w K tg (Itr lo n) [it] it (fun i h=>IsRangeIter h it (lo + (i:Nat) * 1) ((n:Int) - (i:Nat)) 1) where
 mem:=by simp
 obj:=fun i h st b hb=>by
  have e:b=it:=by simpa using hb
  subst e
  exact⟨_,st,fun v z=>by
   have z':Data.fields _=Data.cell v:=z
   cases z'⟩
 keep:=fun i h h' st k=>k it (by simp) _ st
 item:=by
  intro X hP hw hK hc i pins s σ H E I hf st hg
  subst hP hw hK
  obtain⟨f0,f1,f2,f3,f4,f5⟩:=hf it (by simp)
  have W:=Walks.range (prog:=X.prog) (w:=X.w) (I.ok.hd hc) it lo 1 n
  refine W.item i s _ _ hg st fun v h' tk hv st' kk=>?_
  obtain⟨t,rfl⟩:=hv
  have I1:Inv X pins σ H { s with heap:=h',toks:=tk }:=I.turned (fun b o hb e=>kk b o (by simpa using hb) e) f0 f1 f3 f4 f5
  refine⟨_,rfl,p3 (s:={ s with heap:=h',toks:=tk }) (n:="range_iterator") st' rfl rfl (by decide) ⟨.int (lo + i),H,I1,⟨t,?_⟩,⟨rfl,rfl⟩,st',fun b hb=>(hf b hb).1⟩⟩
  rw[Int.mul_one]
 done:=by
  intro X hP hw hK hc i pins s σ H E I hf st hg
  subst hP hw hK
  obtain⟨f0,f1,f2,f3,f4,f5⟩:=hf it (by simp)
  exact wpAny_pyNext_range_end (I.ok.hd hc) st (by have:n≤i:=hg;omega) fun h' eb=>⟨rfl,I.turned (t':=s.toks) (fun b o hb e=>eb b o hb e) f0 f1 f3 f4 f5⟩
 self:=fun _ _ _ _ _ st h=>wpAny_pyIter_rangeiter st h
end L2
namespace L2
open PySem PySem.Spec PyProof.Rows
section
variable {X:Cx} {tg:Expr}
def wN (K:PySem.W.Frag) (tl:TE):TI:=fun σ H R=>tl σ H fun x H1=>∃ a,x=.ref a∧(∃ xs,SqL K H1 a xs)∧R (Itl K a) H1
def AY (K:PySem.W.Frag) (tl:TE):TI:=fun σ H R=>tl σ H fun x H1=>∃ a,x=.ref a∧(∃ xs,SqT K H1 a xs)∧R (Itt K a) H1
theorem uV {l:Expr} {tl:TE} (hl:PE X l tl):PI X tg l (wN X.K tl):=by
 intro pins s σ H R I h
 refine thn (hl pins s σ H _ I h) fun v s1 ⟨x,H1,I1,r1,q1⟩=>?_
 obtain⟨a,e,⟨xs,hq⟩,q⟩:=q1
 subst e
 cases r1
 obtain⟨its,rv,p,hz⟩:=I1.list hq
 refine wpAny_pyIter_list p.isList ?_
 refine⟨s1.heap.objs.size,[s1.heap.objs.size],_,_,H1,rfl,I1.kept (t':=s1.toks) fun b o e=>Heap.get?_push_of_some _ e,qi a _,⟨_,Heap.get?_push_size _ rfl,rfl,rfl⟩,fun b hb=>?_,q⟩
 have e:b=s1.heap.objs.size:=by simpa using hb
 subst e
 exact I1.oR (Nat.le_refl _) (I1.hok.fresh (Nat.le_refl _))
theorem x8 {l:Expr} {tl:TE} (hl:PE X l tl):PI X tg l (AY X.K tl):=by
 intro pins s σ H R I h
 refine thn (hl pins s σ H _ I h) fun v s1 ⟨x,H1,I1,r1,q1⟩=>?_
 obtain⟨a,e,⟨xs,hq⟩,q⟩:=q1
 subst e
 cases r1
 obtain⟨its,rv,p,hz⟩:=I1.tuple hq
 refine wpAny_pyIter_tuple (show s1.heap.IsTuple a its.toArray from p) ?_
 refine⟨s1.heap.objs.size,[s1.heap.objs.size],_,_,H1,rfl,I1.kept (t':=s1.toks) fun b o e=>Heap.get?_push_of_some _ e,nU a _,⟨_,Heap.get?_push_size _ rfl,rfl,rfl⟩,fun b hb=>?_,q⟩
 have e:b=s1.heap.objs.size:=by simpa using hb
 subst e
 exact I1.oR (Nat.le_refl _) (I1.hok.fresh (Nat.le_refl _))
theorem rP {pins:List (Addr×Obj)} {σ:St} {H:Hp} {s:Shared} {R:It→Hp→Prop} {E:Value→Shared→Prop} {lo hi:Int} {t u v:Tok} {tk:Nat} (I:Inv X pins σ H s) (h1:-(2 ^ 62)≤lo) (h2:lo < 2 ^ 62) (h3:-(2 ^ 62)≤hi) (h4:hi < 2 ^ 62)
  (q:R (Itr lo (hi - lo).toNat) H):wpAny (model X.prog X.w) X.A (pyIter (.ref s.heap.objs.size)) (PIE X pins σ tg R) E { s with heap:=s.heap.push { cls:=.type "range",data:=.fields #[.int lo t,.int hi u,.int 1 v] },toks:=tk }:=by
 refine wpAny_pyIter_range (IsRange.new ..) (small_one h1 h2 h3 h4) ?_
 have I1:Inv X pins σ H { s with heap:=s.heap.push { cls:=.type "range",data:=.fields #[.int lo t,.int hi u,.int 1 v] },toks:=tk }:=I.kept fun b o e=>Heap.get?_push_of_some _ e
 refine⟨(s.heap.push { cls:=.type "range",data:=.fields #[.int lo t,.int hi u,.int 1 v] }).objs.size,[(s.heap.push { cls:=.type "range",data:=.fields #[.int lo t,.int hi u,.int 1 v] }).objs.size],_,_,H,rfl,
  I1.kept (t':=tk) fun b o e=>Heap.get?_push_of_some _ e,nV _ lo (hi - lo).toNat,?_,fun b hb=>?_,q⟩
 ·have e1:lo + ((0:Nat):Int) * 1=lo:=by simp
  have e2:(((hi - lo).toNat:Nat):Int) - ((0:Nat):Int)=Builtin.Range.rangeSize lo hi 1:=by rw[rangeSize_one];split <;> omega
  show IsRangeIter _ _ (lo + ((0:Nat):Int) * 1) ((((hi - lo).toNat:Nat):Int) - ((0:Nat):Int)) 1
  rw[e1,e2]
  exact Heap.get?_push_size _ rfl
 ·have e:b=(s.heap.push { cls:=.type "range",data:=.fields #[.int lo t,.int hi u,.int 1 v] }).objs.size:=by simpa using hb
  subst e
  exact I1.oR (Nat.le_refl _) (I1.hok.fresh (Nat.le_refl _))
def wM (ta:TA):TI:=fun σ H R=>ta σ H fun vs H1=>∃ j:Int,vs=[.int j]∧-(2 ^ 62)≤j∧j < 2 ^ 62∧R (Itr 0 j.toNat) H1
def DD (ta:TA):TI:=fun σ H R=>ta σ H fun vs H1=>∃ i j:Int,vs=[.int i,.int j]∧(-(2 ^ 62)≤i∧i < 2 ^ 62∧-(2 ^ 62)≤j∧j < 2 ^ 62)∧R (Itr i (j - i).toNat) H1
theorem qx {a:Expr} {ta:TA} {p pos:Pos} (hg:Gl X "range") (hm:X.mg "range"=none) (ha:PA X [a] ta) (hs:starEach [a] X.env=[(false,eval a X.env)]:=by rfl):PI X tg (.Call (.Name "range" p) [a] [] pos) (wM ta):=by
 intro pins s σ H R I h
 refine Call_ (iV I hg hm boot_range (PyProof.Rows.callWith_type1 (thn (ha pos pins s σ H _ I h) fun us s1 ⟨vs,H1,I1,r1,q1⟩=>?_) hs rfl))
 obtain⟨j,e,q1,q2,q⟩:=q1
 subst e
 cases r1 with
 | cons r rr=>
  cases rr
  obtain⟨t,rfl⟩:=r
  exact call_range_1 (rP I1 (by omega) (by omega) q1 q2 (by simpa using q))
def zZ (wi:TI) (g:TG) (tb:TS):TS:=fun D σ H=>wi σ H fun J H1=>∃ W:Nat→Nat→St→Hp→Prop,(∃ m,W 0 m σ H1)∧∀ i m σ H,W i m σ H→
 (J.stop i H∧D.nx σ H)∨(J.go i H∧∃ N:St→Hp→Prop,(∀ σ' H',N σ' H'→∃ m',m' < m∧W (i + 1) m' σ' H')∧∀ x H',J.yld i H x H'→g x σ H' fun σ2 H2=>tb { D with nx:=N,ct:=N,bk:=D.nx } σ2 H2)
def lP (fp:List Addr) (h:Heap):List (Addr×Obj):=fp.filterMap fun b=>(h.get? b).map fun o=>(b,o)
theorem ej {fp:List Addr} {h:Heap} {b:Addr} {o:Obj} (hb:b∈fp) (e:h.get? b=some o):(b,o)∈lP fp h:=List.mem_filterMap.mpr ⟨b,hb,by rw[e];rfl⟩
theorem qB {fp:List Addr} {h:Heap} {p:Addr×Obj} (hp:p∈lP fp h):p.1∈fp∧h.get? p.1=some p.2:=by
 obtain⟨b,hb,e⟩:=List.mem_filterMap.mp hp
 cases q:h.get? b with
 | none=>rw[q] at e;cases e
 | some o=>
  rw[q] at e
  have e':(b,o)=p:=Option.some.inj e
  subst e'
  exact⟨hb,q⟩
theorem Inv.pinned {pins:List (Addr×Obj)} {σ:St} {H:Hp} {s:Shared} {fp:List Addr} (I:Inv X pins σ H s) (hf:∀ b∈fp,i_ X pins H b) (ho:∀ b∈fp,∃ o,s.heap.get? b=some o∧∀ v,o.data≠.cell v):Inv X (pins++lP fp s.heap) σ H s:=
 I.ik fun p hp=>(List.mem_append.mp hp).elim (fun z=>I.pin p (List.mem_append_right _ z)) fun z=>by
  obtain⟨hb,e⟩:=qB z
  obtain⟨f0,f1,f2,_⟩:=hf p.1 hb
  obtain⟨o,e',d⟩:=ho p.1 hb
  rw[e] at e';cases e'
  exact⟨e,f0,f1,f2,d⟩
theorem Inv.jQ {pins pl:List (Addr×Obj)} {σ:St} {H:Hp} {s:Shared} (I:Inv X (pins++pl) σ H s):Inv X pins σ H s:=I.ik fun p hp=>I.pin p (List.mem_append_right _ (List.mem_append_left _ hp))
theorem x4 {iter:Expr} {body:List Stmt} {wi:TI} {g:TG} {tb:TS} {pos:Pos} (hp:PassesOwn (model X.prog X.w) X.A X.env X.xe) (hc:X.calm=true) (hi:PI X tg iter wi) (hg:PG X tg g) (hb:PSs X body tb)
  (hs:∀ x,foldedSetIterable iter X.env x=pure x:=by intro _;rfl):PS X (.For tg iter body [] pos) (zZ wi g tb):=by
 intro pins s σ H D I h
 refine wpAny_For (thn (hi pins s σ H _ I h) fun v s1 h1=>thn h1 fun itv s2 h2=>?_) hs
 obtain⟨it,fp,tn,J,H2,e,I2,T,st2,f2,W,⟨m0,w0⟩,turn⟩:=h2
 subst e
 have stat:∀ {H':Hp},(∀ b∈fp,H' b=none)→∀ b∈fp,i_ X pins H' b:=fun hn b hb=>⟨hn b hb,(f2 b hb).2⟩
 refine codeAny_forLoop_any (fun n s'=>∃ i σ' H',Inv X pins σ' H' s'∧tn i s'.heap∧(∀ b∈fp,H' b=none)∧W i n σ' H') ?_ m0 ⟨0,σ,H2,I2,st2,fun b hb=>(f2 b hb).1,w0⟩
 rintro n s3 ⟨i,σ3,H3,I3,st3,fr3,w3⟩
 rcases turn i n σ3 H3 w3 with ⟨stop,qn⟩ | ⟨go,N,hN,step⟩
 ·refine wpAny_passesOwn hp (thn (T.done X rfl rfl rfl hc i pins s3 σ3 H3 X.xe I3 (stat fr3) st3 stop) fun r s4 ⟨hr,I4⟩=>?_)
  subst hr
  exact wpAny_execs_nil ⟨σ3,H3,I4,qn⟩
 ·refine wpAny_passesOwn hp (thn (T.item X rfl rfl rfl hc i pins s3 σ3 H3 X.xe I3 (stat fr3) st3 go) fun r s4 ⟨u,hr,h4⟩=>?_)
  subst hr
  refine wpAny_passesOwn hp (thn h4 fun _ s5 ⟨x,H5,I5,r5,y5,st5,fr5⟩=>?_)
  have I5':=I5.pinned (stat fr5) (T.obj _ _ st5)
  refine wpAny_passesOwn hp (thn (hg _ s5 σ3 H5 x u _ I5' r5 (step x H5 y5)) fun _ s6 ⟨σ6,H6,I6,q6⟩=>?_)
  refine wpAny_passesOwn hp (thn (hb _ s6 σ6 H6 _ I6 q6) fun f s7 q7=>?_)
  have again:∀ {σ7:St} {H7:Hp},Inv X (pins++lP fp s5.heap) σ7 H7 s7→N σ7 H7→∃ m,m < n∧∃ i σ' H',Inv X pins σ' H' s7∧tn i s7.heap∧(∀ b∈fp,H' b=none)∧W i m σ' H':=fun {σ7 H7} I7 n7=>by
   obtain⟨m',hm,w7⟩:=hN σ7 H7 n7
   refine⟨m',hm,i + 1,σ7,H7,I7.jQ,T.keep _ _ _ st5 fun b hb o e=>(I7.pin (b,o) (List.mem_append_right _ (List.mem_append_right _ (ej hb e)))).1,fun b hb=>?_,w7⟩
   obtain⟨o,e,d⟩:=T.obj _ _ st5 b hb
   exact(I7.pin (b,o) (List.mem_append_right _ (List.mem_append_right _ (ej hb e)))).2.1
  cases f with
  | next=>obtain⟨σ7,H7,I7,n7⟩:=q7;exact again I7 n7
  | cont=>obtain⟨σ7,H7,I7,n7⟩:=q7;exact again I7 n7
  | brk=>obtain⟨σ7,H7,I7,q7⟩:=q7;exact⟨σ7,H7,I7.jQ,q7⟩
  | ret v=>obtain⟨x7,σ7,H7,I7,r7,q7⟩:=q7;exact⟨x7,σ7,H7,I7.jQ,r7,q7⟩
end
end L2
namespace L2
open PySem PySem.Spec PyProof.Rows
abbrev R2:=V→V→Hp→VK→Prop
def OpR (X:Cx) (f:Value→Value→Sem Value) (r:R2):Prop:=
 ∀ (pins:List (Addr×Obj)) (s:Shared) (σ:St) (H:Hp) (x y:V) (v u:Value) (Q:VK),Inv X pins σ H s→RelV x v→RelV y u→r x y H Q→
  wpAny (model X.prog X.w) X.A (f v u) (EP X pins σ Q) X.xe s
def UnR (X:Cx) (f:Value→Sem Value) (r:V→Hp→VK→Prop):Prop:=
 ∀ (pins:List (Addr×Obj)) (s:Shared) (σ:St) (H:Hp) (x:V) (v:Value) (Q:VK),Inv X pins σ H s→RelV x v→r x H Q→
  wpAny (model X.prog X.w) X.A (f v) (EP X pins σ Q) X.xe s
def bQ (X:Cx) (f:Value) (r:List V→Hp→VK→Prop):Prop:=
 ∀ (pins:List (Addr×Obj)) (s:Shared) (σ:St) (H:Hp) (xs:List V) (us:List Value) (Q:VK),Inv X pins σ H s→Vals xs us→r xs H Q→
  wpAny (model X.prog X.w) X.A (call f us) (EP X pins σ Q) X.xe s
def Eb (X:Cx) (r:V→Hp→(Bool→Hp→Prop)→Prop):Prop:=
 ∀ (pins:List (Addr×Obj)) (s:Shared) (σ:St) (H:Hp) (x:V) (v:Value) (Q:Bool→Hp→Prop),Inv X pins σ H s→RelV x v→r x H Q→
  wpAny (model X.prog X.w) X.A (truthy v) (TP X pins σ Q) X.xe s
def tOp (r:R2) (ta tb:TE):TE:=fun σ H Q=>ta σ H fun x H1=>tb σ H1 fun y H2=>r x y H2 Q
def tUn (r:V→Hp→VK→Prop) (ta:TE):TE:=fun σ H Q=>ta σ H fun x H1=>r x H1 Q
def rI (C:Int→Int→Prop) (g:Int→Int→V):R2:=fun x y H Q=>∃ i j,x=.int i∧y=.int j∧C i j∧Q (g i j) H
def rI0 (g:Int→Int→V):R2:=fun x y H Q=>∃ i j,x=.int i∧y=.int j∧Q (g i j) H
def rU (g:Int→V):V→Hp→VK→Prop:=fun x H Q=>∃ i,x=.int i∧Q (g i) H
section
variable {X:Cx} {a b c:Expr} {ta tb tc:TE} {pos:Pos}
theorem zy (ha:PE X a ta) (hb:PE X b tb) {pins:List (Addr×Obj)} {s:Shared} {σ:St} {H:Hp} {R:V→V→Hp→Prop} (I:Inv X pins σ H s)
  (h:ta σ H fun x H1=>tb σ H1 fun y H2=>R x y H2) {Q:Value→Shared→Prop} {f:Value→Value→Sem Value}
  (hf:∀ v u s2 x y H2,Inv X pins σ H2 s2→RelV x v→RelV y u→R x y H2→wpAny (model X.prog X.w) X.A (f v u) Q X.xe s2) :
  wpAny (model X.prog X.w) X.A (eval a X.env) (fun v s₁=>wpAny (model X.prog X.w) X.A (eval b X.env) (fun u s₂=>wpAny (model X.prog X.w) X.A (f v u) Q X.xe s₂) X.xe s₁) X.xe s:=by
 refine thn (ha pins s σ H _ I h) fun v s1 ⟨x,H1,I1,r1,q1⟩=>?_
 refine thn (hb pins s1 σ H1 _ I1 q1) fun u s2 ⟨y,H2,I2,r2,q2⟩=>?_
 exact hf v u s2 x y H2 I2 r1 r2 q2
theorem jd {op:Operator} {r:R2} (ho:OpR X (binaryOp op) r) (ha:PE X a ta) (hb:PE X b tb):PE X (.BinOp a op b pos) (tOp r ta tb):=by
 intro pins s σ H Q I h
 exact wpAny_BinOp (zy ha hb I h fun v u s2 x y H2 I2 rx ry q=>ho pins s2 σ H2 x y v u Q I2 rx ry q)
theorem AA {op:UnaryOp} {r:V→Hp→VK→Prop} (ho:UnR X (unaryOp op) r) (ha:PE X a ta):PE X (.UnaryOp op a pos) (tUn r ta):=by
 intro pins s σ H Q I h
 exact UnaryOp_ (thn (ha pins s σ H _ I h) fun v s1 ⟨x,H1,I1,r1,q1⟩=>ho pins s1 σ H1 x v Q I1 r1 q1)
theorem opI {f:Value→Value→Sem Value} {C:Int→Int→Prop} {g:Int→Int→Int}
  (rule:∀ (i j:Int) (t u:Tok) (s:Shared) (Q:Value→Shared→Prop) (E:Value→Shared→Prop),C i j→Q (.int (g i j) s.toks) { s with toks:=s.toks + 1 }→wpAny (model X.prog X.w) X.A (f (.int i t) (.int j u)) Q E s) :
  OpR X f (rI C fun i j=>.int (g i j)):=by
 intro pins s σ H x y v u Q I rx ry h
 obtain⟨i,j,rfl,rfl,hc,q⟩:=h
 obtain⟨t,rfl⟩:=rx
 obtain⟨t',rfl⟩:=ry
 exact rule i j t t' s _ _ hc ⟨.int (g i j),H,I.tok _,⟨_,rfl⟩,q⟩
theorem oy {f:Value→Value→Sem Value} {g:Int→Int→Int}
  (rule:∀ (i j:Int) (t u:Tok) (s:Shared) (Q:Value→Shared→Prop) (E:Value→Shared→Prop),Q (.int (g i j) s.toks) { s with toks:=s.toks + 1 }→wpAny (model X.prog X.w) X.A (f (.int i t) (.int j u)) Q E s) :
  OpR X f (rI0 fun i j=>.int (g i j)):=by
 intro pins s σ H x y v u Q I rx ry h
 obtain⟨i,j,rfl,rfl,q⟩:=h
 obtain⟨t,rfl⟩:=rx
 obtain⟨t',rfl⟩:=ry
 exact rule i j t t' s _ _ ⟨.int (g i j),H,I.tok _,⟨_,rfl⟩,q⟩
theorem yr {f:Value→Value→Sem Value} {g:Int→Int→Bool}
  (rule:∀ (i j:Int) (t u:Tok) (s:Shared) (Q:Value→Shared→Prop) (E:Value→Shared→Prop),Q (.bool (g i j)) s→wpAny (model X.prog X.w) X.A (f (.int i t) (.int j u)) Q E s) :
  OpR X f (rI0 fun i j=>.bl (g i j)):=by
 intro pins s σ H x y v u Q I rx ry h
 obtain⟨i,j,rfl,rfl,q⟩:=h
 obtain⟨t,rfl⟩:=rx
 obtain⟨t',rfl⟩:=ry
 exact rule i j t t' s _ _ ⟨.bl (g i j),H,I,rfl,q⟩
def zH (i j:Int):Prop:=0 < j∧j < 1073741824
def DJ (i j:Int):Prop:=j≠0∧j.natAbs < 1073741824
def ua (i j:Int):Prop:=0≤j∧j≤1000000∧i.natAbs < 2 ^ 64
def ub (i j:Int):Prop:=(-(2 ^ 64) < i∧i < 2 ^ 64)∨(-(2 ^ 64) < j∧j < 2 ^ 64)
theorem ub.ok {i j:Int} (h:ub i j):IntMulOk i j:=by
 rcases h with ⟨h1,h2⟩ | ⟨h1,h2⟩
 ·exact .of_left (intBits_le_64 h1 h2)
 ·exact .of_right (intBits_le_64 h1 h2)
theorem yq:OpR X (binaryOp .Add) (rI0 fun i j=>.int (i + j)):=oy fun _ _ _ _ _ _ _ q=>add_int q
theorem yk:OpR X (binaryOp .Sub) (rI0 fun i j=>.int (i - j)):=oy fun _ _ _ _ _ _ _ q=>sub_int q
theorem ym:OpR X (binaryOp .Mult) (rI ub fun i j=>.int (i * j)):=opI fun _ _ _ _ _ _ _ hc q=>mul_int q hc.ok
theorem vk:OpR X (binaryOp .FloorDiv) (rI zH fun i j=>.int (i / j)):=opI fun i j _ _ _ _ _ hc q=>by
 have h1:(0:Int) < j:=hc.1
 have h2:j < 1073741824:=hc.2
 exact floordiv_int (by omega) (by rw[Int.fdiv_eq_ediv_of_nonneg i (by omega)];exact q) (.inl (PyProof.noPylong_small (by omega)))
theorem yn:OpR X (binaryOp .Mod) (rI (fun _ j=>0 < j) fun i j=>.int (i % j)):=opI fun i j _ _ _ _ _ hc q=>by
 have h1:(0:Int) < j:=hc
 exact mod_int' (by omega) (by rw[Int.fmod_eq_emod_of_nonneg i (by omega)];exact q)
theorem sy:OpR X (binaryOp .Pow) (rI ua fun i j=>.int (i ^ j.toNat)):=opI fun _ _ _ _ _ _ _ hc q=>pow_int_small hc.1 hc.2.1 hc.2.2 q
theorem unI {f:Value→Sem Value} {g:Int→Int}
  (rule:∀ (i:Int) (t:Tok) (s:Shared) (Q:Value→Shared→Prop) (E:Value→Shared→Prop),Q (.int (g i) s.toks) { s with toks:=s.toks + 1 }→wpAny (model X.prog X.w) X.A (f (.int i t)) Q E s) :
  UnR X f (rU fun i=>.int (g i)):=by
 intro pins s σ H x v Q I rx h
 obtain⟨i,rfl,q⟩:=h
 obtain⟨t,rfl⟩:=rx
 exact rule i t s _ _ ⟨.int (g i),H,I.tok _,⟨_,rfl⟩,q⟩
theorem xq:UnR X (unaryOp .USub) (rU fun i=>.int (-i)):=unI fun _ _ _ _ _ q=>neg_int q
end
def Ac:V→V→Bool
 | .non,.non=>true | .non,.int _=>true | .int _,.non=>true | .non,.bl _=>true | .bl _,.non=>true | .non,.str _=>true | .str _,.non=>true
 | .int _,.int _=>true | .bl _,.bl _=>true | .str _,.str _=>true | .byt _,.byt _=>true
 | .int _,.str _=>true | .str _,.int _=>true | .bl _,.str _=>true | .str _,.bl _=>true
 | _,_=>false
def rEq:R2:=fun x y H Q=>Ac x y=true∧Q (.bl (decide (x=y))) H
def rNe:R2:=fun x y H Q=>Ac x y=true∧Q (.bl (!decide (x=y))) H
section
variable {X:Cx} {a b c:Expr} {ta tb tc:TE} {pos:Pos}
theorem md {pins:List (Addr×Obj)} {σ:St} {H:Hp} {s:Shared} {Q:VK} {k k':Bool} (I:Inv X pins σ H s) (q:Q (.bl k) H) (e:k=k'):EP X pins σ Q (.bool k') s:=by
 subst e
 exact⟨.bl k,H,I,rfl,q⟩
theorem AH:OpR X (compareOp .Lt) (rI0 fun i j=>.bl (decide (i < j))):=yr fun _ _ _ _ _ _ _ q=>lt_int q
theorem AI:OpR X (compareOp .LtE) (rI0 fun i j=>.bl (decide (i≤j))):=yr fun _ _ _ _ _ _ _ q=>le_int q
theorem AJ:OpR X (compareOp .Gt) (rI0 fun i j=>.bl (decide (j < i))):=yr fun _ _ _ _ _ _ _ q=>gt_int q
theorem qz:OpR X (compareOp .In) (fun x y H Q=>∃ i j,x=.str i∧y=.str j∧Q (.bl (!(Builtin.Str.occurrences j i 0 j.length 1).isEmpty)) H):=by
 intro pins s σ H x y v u Q I rx ry h
 obtain⟨i,j,rfl,rfl,q⟩:=h
 obtain⟨t,rfl⟩:=rx
 obtain⟨t',rfl⟩:=ry
 exact in_str (md I q rfl)
theorem vi:OpR X (compareOp .IsNot) (fun x y H Q=>y=.non∧Q (.bl (!decide (x=.non))) H):=by
 intro pins s σ H x y v u Q I rx ry h
 obtain⟨rfl,q⟩:=h
 cases ry
 refine isnot_none_gen (md I q ?_)
 cases x <;> first
  | (cases rx;rfl)
  | (obtain⟨t,rfl⟩:=rx;rfl)
def isObj:HO→Bool
 | .lst _=>true
 | .ins _ _ _=>true
 | _=>false
theorem OpR.or {f:Value→Value→Sem Value} {r r':R2} (h:OpR X f r) (h':OpR X f r'):OpR X f (fun x y H Q=>r x y H Q∨r' x y H Q):=by
 intro pins s σ H x y v u Q I rx ry q
 rcases q with q | q
 ·exact h pins s σ H x y v u Q I rx ry q
 ·exact h' pins s σ H x y v u Q I rx ry q
theorem bg (b:Expr) {op:CmpOp} (h:op≠.In:=by decide) (h2:op≠.NotIn:=by decide):behindInMarks op b=false:=by
 have e1:(op == CmpOp.In)=false:=by cases op <;> first | rfl | exact absurd rfl h
 have e2:(op == CmpOp.NotIn)=false:=by cases op <;> first | rfl | exact absurd rfl h2
 cases b <;> simp [behindInMarks,e1,e2]
theorem u7 {op:CmpOp} {r:R2} (ho:OpR X (compareOp op) r) (ha:PE X a ta) (hb:PE X b tb) (hm:behindInMarks op b=false):PE X (.Compare a [op] [b] pos) (tOp r ta tb):=by
 intro pins s σ H Q I h
 exact wpAny_Compare1 (zy ha hb I h fun v u s2 x y H2 I2 rx ry q=>ho pins s2 σ H2 x y v u Q I2 rx ry q) hm
def pq (t:TE):TT:=fun σ H Q=>t σ H fun x H'=>∃ k,x=.bl k∧Q k H'
theorem uP {op:CmpOp} {r:R2} (ho:OpR X (compareOp op) r) (ha:PE X a ta) (hb:PE X b tb) (hm:behindInMarks op b=false):PT X (.Compare a [op] [b] pos) (pq (tOp r ta tb)):=by
 intro pins s σ H Q I h
 refine wpAny_isTrue_Compare1 (thn (ha pins s σ H _ I h) fun v s1 ⟨x,H1,I1,r1,q1⟩=>thn (hb pins s1 σ H1 _ I1 q1) fun u s2 ⟨y,H2,I2,r2,q2⟩=>
  thn (ho pins s2 σ H2 x y v u _ I2 r1 r2 q2) fun c s3 ⟨z,H3,I3,r3,k,e,q3⟩=>?_) hm
 subst e
 cases r3
 exact wpAny_truthy_bool ⟨H3,I3,q3⟩
def jT (r r':R2) (ta tb tc:TE):TE:=fun σ H Q=>ta σ H fun x H1=>tb σ H1 fun y H2=>r x y H2 fun z H3=>∃ k,z=.bl k∧
 (if k=true then tc σ H3 fun w' H4=>r' y w' H4 Q else Q (.bl false) H3)
theorem r_ {op op':CmpOp} {r r':R2} (ho:OpR X (compareOp op) r) (ho':OpR X (compareOp op') r') (ha:PE X a ta) (hb:PE X b tb) (hc:PE X c tc)
  (hm:lastMarks [op,op'] [b,c]=false:=by with_unfolding_all rfl):PE X (.Compare a [op,op'] [b,c] pos) (jT r r' ta tb tc):=by
 intro pins s σ H Q I h
 refine Compare_chain (thn (ha pins s σ H _ I h) fun v s1 ⟨x,H1,I1,r1,q1⟩=>chain_link (thn (hb pins s1 σ H1 _ I1 q1) fun u s2 ⟨y,H2,I2,r2,q2⟩=>
  thn (ho pins s2 σ H2 x y v u _ I2 r1 r2 q2) fun d s3 ⟨z,H3,I3,r3,k,e,q3⟩=>?_)) hm
 subst e
 cases r3
 refine wpAny_truthy_bool ?_
 cases k with
 | false=>exact ite_ff ⟨.bl false,H3,I3,rfl,q3⟩
 | true=>exact ite_tt (chain_last (thn (hc pins s3 σ H3 _ I3 q3) fun w' s4 ⟨z',H4,I4,r4,q4⟩=>ho' pins s4 σ H4 y z' u w' Q I4 r2 r4 q4))
theorem rT {op op':CmpOp} {r r':R2} (ho:OpR X (compareOp op) r) (ho':OpR X (compareOp op') r') (ha:PE X a ta) (hb:PE X b tb) (hc:PE X c tc)
  (hm:lastMarks [op,op'] [b,c]=false:=by with_unfolding_all rfl):PT X (.Compare a [op,op'] [b,c] pos) (pq (jT r r' ta tb tc)):=by
 intro pins s σ H Q I h
 refine isTrue_chain (thn (ha pins s σ H _ I h) fun v s1 ⟨x,H1,I1,r1,q1⟩=>test_link (thn (hb pins s1 σ H1 _ I1 q1) fun u s2 ⟨y,H2,I2,r2,q2⟩=>
  thn (ho pins s2 σ H2 x y v u _ I2 r1 r2 q2) fun d s3 ⟨z,H3,I3,r3,k,e,q3⟩=>?_)) hm
 subst e
 cases r3
 refine wpAny_truthy_bool ?_
 cases k with
 | false=>
  obtain⟨k',e',q'⟩:=q3
  cases e'
  exact ite_ff ⟨H3,I3,q'⟩
 | true=>
  refine ite_tt (test_last (thn (hc pins s3 σ H3 _ I3 q3) fun w' s4 ⟨z',H4,I4,r4,q4⟩=>thn (ho' pins s4 σ H4 y z' u w' _ I4 r2 r4 q4) fun d' s5 ⟨z2,H5,I5,r5,k2,e2,q5⟩=>?_))
  subst e2
  cases r5
  exact wpAny_truthy_bool ⟨H5,I5,q5⟩
def Ea (K:PySem.W.Frag) (x:V) (H:Hp) (k:Bool):Prop:=
 match x with
 | .non=>k=false
 | .bl b=>k=b
 | .int i=>k=(i != 0)
 | .str y=>y.length≤sizeLine∧k=((y.length:Int) != 0)
 | .byt y=>y.size≤sizeLine∧k=((y.size:Int) != 0)
 | .ref p=>(∃ xs,SqL K H p xs∧k=!xs.isEmpty)∨(∃ xs,SqT K H p xs∧k=!xs.isEmpty)∨∃ kvs,H p=some (.dK kvs)∧k=!kvs.isEmpty
 | _=>False
theorem iU:(sizeLine:Nat) < 2 ^ 63:=by rw[sizeLine_eq];decide
theorem ou:OpR X (binaryOp .Add) (fun x y H Q=>∃ i j,x=.str i∧y=.str j∧i.length + j.length≤sizeLine∧Q (.str (i++j)) H):=by
 intro pins s σ H x y v u Q I rx ry h
 obtain⟨i,j,rfl,rfl,hz,q⟩:=h
 obtain⟨t,rfl⟩:=rx
 obtain⟨t',rfl⟩:=ry
 exact add_str (fun t' tk=>⟨.str (i++j),H,I.tok _,⟨_,rfl⟩,q⟩) hz
def BP (b:Expr):Prop:=∀ o i,subscripted b false o i=operate [o,i] (getItem o i)
theorem vals1 {x:V} {us:List Value} (r:Vals [x] us):∃ u,us=[u]∧RelV x u:=by
 cases r with
 | cons r1 r2=>cases r2;exact⟨_,rfl,r1⟩
theorem vals2 {x y:V} {us:List Value} (r:Vals [x,y] us):∃ u w',us=[u,w']∧RelV x u∧RelV y w':=by
 cases r with
 | cons r1 r2=>
  cases r2 with
  | cons r3 r4=>cases r4;exact⟨_,_,rfl,r1,r3⟩
theorem tX:bQ X (.builtin "abs") (fun xs H Q=>∃ i,xs=[.int i]∧Q (.int (if i < 0 then -i else i)) H):=by
 intro pins s σ H xs us Q I r h
 obtain⟨i,rfl,q⟩:=h
 obtain⟨u,rfl,t,rfl⟩:=vals1 r
 exact call_abs_int fun u tk=>⟨.int (if i < 0 then -i else i),H,I.tok _,⟨_,rfl⟩,q⟩
theorem qN (hc:X.calm=true):bQ X (.builtin "max") (fun xs H Q=>∃ i j,xs=[.int i,.int j]∧Q (.int (if j > i then j else i)) H):=by
 intro pins s σ H xs us Q I r h
 obtain⟨i,j,rfl,q⟩:=h
 obtain⟨u,w',rfl,⟨t,rfl⟩,⟨t',rfl⟩⟩:=vals2 r
 refine max_two_ints (I.ok.hd hc) fun h' tk k=>⟨_,H,I.kept k,?_,q⟩
 by_cases hj:j > i
 ·rw[if_pos hj,if_pos hj];exact⟨_,rfl⟩
 ·rw[if_neg hj,if_neg hj];exact⟨_,rfl⟩
theorem qM (hc:X.calm=true):bQ X (.builtin "min") (fun xs H Q=>∃ i j,xs=[.int i,.int j]∧Q (.int (if j < i then j else i)) H):=by
 intro pins s σ H xs us Q I r h
 obtain⟨i,j,rfl,q⟩:=h
 obtain⟨u,w',rfl,⟨t,rfl⟩,⟨t',rfl⟩⟩:=vals2 r
 refine min_two_ints (I.ok.hd hc) fun h' tk k=>⟨_,H,I.kept k,?_,q⟩
 by_cases hj:j < i
 ·rw[if_pos hj,if_pos hj];exact⟨_,rfl⟩
 ·rw[if_neg hj,if_neg hj];exact⟨_,rfl⟩
theorem qP:bQ X (.type "int") (fun xs H Q=>(∃ i,xs=[.int i]∧Q (.int i) H)∨∃ k,xs=[.bl k]∧Q (.int (if k then 1 else 0)) H):=by
 intro pins s σ H xs us Q I r h
 rcases h with ⟨i,rfl,q⟩ | ⟨k,rfl,q⟩
 ·obtain⟨u,rfl,t,rfl⟩:=vals1 r
  exact call_int_int ⟨.int i,H,I,⟨_,rfl⟩,q⟩
 ·obtain⟨u,rfl,r1⟩:=vals1 r
  cases r1
  exact call_int_bool ⟨.int (if k then 1 else 0),H,I.tok _,⟨_,rfl⟩,q⟩
theorem mq:bQ X (.type "str") (fun xs H Q=>∃ i,xs=[.int i]∧i.natAbs.log2 < 1920∧Q (.str (toString i)) H):=by
 intro pins s σ H xs us Q I r h
 obtain⟨i,rfl,hz,q⟩:=h
 obtain⟨u,rfl,t,rfl⟩:=vals1 r
 exact PySem.P.str_of_int hz ⟨.str _,H,I.tok _,⟨_,rfl⟩,q⟩
def Eg (K:PySem.W.Frag) (x:V) (H:Hp) (n:Nat):Prop:=
 match x with
 | .str y=>y.length≤sizeLine∧n=y.length
 | .byt y=>y.size≤sizeLine∧n=y.size
 | .ref p=>(∃ xs,SqL K H p xs∧n=xs.length)∨∃ xs,SqT K H p xs∧n=xs.length
 | _=>False
end
end L2
namespace L2
open PySem PySem.Spec PyProof.Rows
structure o_ (h:Heap) (x dx C:Addr) (mA:Str→Option Value):Prop where
 obj:h.get? x=some (PySem.W.instObj C dx)
 ns:h.Ns1 dx mA
 ne:dx≠x
theorem gi {h:Heap} {dx:Addr} {mA:Str→Option Value} (n:h.Ns1 dx mA):∃ od,h.get? dx=some od∧∀ name,PySem.W.lookIn name od=some (mA name):=by
 obtain⟨o,es,ep,ho,hd,hk,_,hm⟩:=n
 refine⟨o,ho,fun name=>?_⟩
 have e:=hm name
 unfold nsFind findBy at e
 rw[← Array.find?_toList] at e
 unfold PySem.W.lookIn
 rw[hd]
 dsimp only
 split
 ·rename_i y q
  rw[q] at e
  exact congrArg some e
 ·rename_i q
  rw[q] at e
  have a:es.toList.any (·.refKey)=false:=by
   rw[List.any_eq_false]
   intro y hy
   obtain⟨z,t,hkey⟩:=hk y (Array.mem_toList_iff.mp hy)
   simp [DictEntry.refKey,hkey]
  have a':¬ es.toList.any (·.refKey)=true:=by rw[a];exact Bool.false_ne_true
  rw[if_neg a']
  exact congrArg some e
theorem o_.look {h:Heap} {x dx C:Addr} {mA:Str→Option Value} (I:o_ h x dx C mA):∃ od,PySem.W.InstAt h x (PySem.W.instObj C dx) C (some od)∧∀ name,PySem.W.lookIn name od=some (mA name):=
 let ⟨od,ho,hl⟩:=gi I.ns
 ⟨od,⟨I.obj,rfl,rfl,ho⟩,hl⟩
section
variable {prog:Program} {w:World} {A:Around} {E:Value→Shared→Prop} {s:Shared} {K:PySem.W.Frag} {x dx C f:Addr} {mA:Str→Option Value} {name:Str} {v:Value}
theorem get_map {expr:Bool} {Q:Value→Shared→Prop} (X:K.In s.heap) (I:o_ s.heap x dx C mA) (hg:PySem.W.plainGet K C name=true) (hh:PySem.W.hasDictIn K C=true)
  (ha:PySem.W.findIn K (.ref C) name=some none) (hv:mA name=some v) (hv':PySem.W.handedIn v=true) (h:Q v { s with toks:=s.toks + 1 }) :
  wpAny (model prog w) A (getAttr (.ref x) name expr) Q E s:=by
 obtain⟨od,J,hl⟩:=I.look
 exact PySem.W.get_value X J (PySem.W.plainGet_of hg).1 (PySem.W.findObj_own hh ha rfl (by rw[hl,hv])) hv' h
theorem tw {pl:Sem Bool} {Q:Value×List Value→Shared→Prop} (X:K.In s.heap) (I:o_ s.heap x dx C mA) (hg:PySem.W.plainGet K C name=true)
  (hf:PySem.W.findIn K (.ref C) name=some (some (.ref f))) (ht:PySem.W.isFn K (.ref f)=true) (hv:mA name=none) (h:Q (.ref f,[.ref x]) s) :
  wpAny (model prog w) A (getMethod (.ref x) name pl) Q E s:=by
 obtain⟨od,J,hl⟩:=I.look
 exact PySem.W.method_fn X J (PySem.W.plainGet_of hg).1 (PySem.W.plainGet_of hg).2 hf (beq_iff_eq.mp ht) (by show (PySem.W.lookIn name od).map (·.isSome)=some false;rw[hl,hv];rfl) h
theorem uw {ns:List Str} {Q:Unit→Shared→Prop} (X:K.In s.heap) (I:o_ s.heap x dx C mA)
  (hs:PySem.W.findIn K (.ref C) "__setattr__"=some (some (.builtin "object.__setattr__"))) (hp:PySem.W.plainOver K C=true) (ht:PySem.W.takerIn K C name=some none) (hh:PySem.W.hasDictIn K C=true)
  (hw:PySem.Within mA ns) (hsz:ns.length≤sizeLine)
  (h:∀ h',o_ h' x dx C (fun y=>if y=name then some v else mA y)→Heap.SameBut dx s.heap h'→Q () { s with heap:=h',toks:=s.toks + 2 }) :
  wpAny (model prog w) A (setAttr (.ref x) name v) Q E s:=by
 obtain⟨od,J,hl⟩:=I.look
 refine PySem.W.set_plain X J hs (PySem.W.osa_open (s:={ s with toks:=s.toks + 1 }) (r:=none) X J hp ht fun b=>?_)
 obtain⟨cd,hc,hd'⟩:=PySem.W.any_some hh
 have hx:s.heap.get? x=some ⟨.ref C,some dx,.plain,#[]⟩:=I.obj
 refine wpAny_bind (wpAny_pure (wpAny_bind (wpAny_bind (wpAny_loadPart hx (wpAny_bind (PySem.W.Looks.here (s:={ s with toks:=s.toks + 1 }) (PySem.W.looks_clsIn X hc) ?_))))))
 rw[hd']
 refine wpAny_pure (a:=some dx) (wpAny_bind (wpAny_pure (wpAny_bind ?_)))
 refine wpAny_nsSet1 (s:={ s with toks:=s.toks + 1 }) I.ns fun h' hn2 hs2=>?_
 obtain⟨oD,esD,epD,hoD,hdD,hcD⟩:=hn2.count (PySem.Within.cons name v hw)
 refine wpAny_bind (wpAny_lookBehind hoD (by rw[hdD];exact pastItsLine_dict (Nat.le_trans hcD (by rw[List.length_cons];omega))) ?_)
 exact wpAny_pure (h _ ⟨(hs2.2 _ (Ne.symm I.ne)).trans I.obj,hn2,I.ne⟩ hs2)
theorem sL {R:Result→Shared→Prop} {vs:List Value} {kw:List (Str×Value)} (X:K.In s.heap) (hm:PySem.W.makesIn K C=true)
  (hi:PySem.W.findIn K (.ref C) "__init__"=some (some (.ref f))) (hf:PySem.W.typeIn K (.ref f)=some (.type "function"))
  (h:codeAny (model prog w) (A.under (.builtin "type.__call__" ⟨.ref C::vs,kw⟩)) (.call (.ref f) ⟨.ref (s.heap.objs.size + 1)::vs,kw⟩) (PySem.W.InitBack (s.heap.objs.size + 1) R)
   { s with heap:=(s.heap.push PySem.W.emptyDict).push (PySem.W.instObj C s.heap.objs.size) }) :
  codeAny (model prog w) A (.call (.ref C) ⟨vs,kw⟩) R s:=by
 obtain⟨hh,g,d,t,os⟩:=s
 exact PySem.W.make_core (PySem.W.makes_of X hm) (PySem.W.looks_findIn X hi) (fun self=>PySem.W.bind_fn X self hf) (.inl rfl) h
end
def du (f:Str) (v:V):List (Str×V)→List (Str×V)
 | []=>[(f,v)]
 | (g,x)::r=>if g=f then (g,v)::r else (g,x)::du f v r
theorem fB (f g:Str) (v:V):∀ fs:List (Str×V),(du f v fs).lookup g=if g=f then some v else fs.lookup g
 | []=>by
  show List.lookup g [(f,v)]=_
  by_cases h:g=f
  ·have hb:(g == f)=true:=beq_iff_eq.mpr h
   simp only[List.lookup,hb,if_pos h]
  ·have hb:(g == f)=false:=beq_eq_false_iff_ne.mpr h
   simp only[List.lookup,hb,if_neg h]
 | (k,x)::r=>by
  have ih:=fB f g v r
  rw[show du f v ((k,x)::r)=(if k=f then (k,v)::r else (k,x)::du f v r) from rfl]
  by_cases hk:k=f
  ·rw[if_pos hk]
   by_cases h:g=k
   ·have hb:(g == k)=true:=beq_iff_eq.mpr h
    simp only[List.lookup,hb,if_pos (h.trans hk)]
   ·have hb:(g == k)=false:=beq_eq_false_iff_ne.mpr h
    simp only[List.lookup,hb,if_neg (fun e:g=f=>h (e.trans hk.symm))]
  ·rw[if_neg hk]
   by_cases h:g=k
   ·have hb:(g == k)=true:=beq_iff_eq.mpr h
    simp only[List.lookup,hb,if_neg (fun e:g=f=>hk (h.symm.trans e))]
   ·have hb:(g == k)=false:=beq_eq_false_iff_ne.mpr h
    simp only[List.lookup,hb]
    exact ih
theorem dM (f:Str) (v:V):∀ fs:List (Str×V),f∈(du f v fs).map (·.1)∧∀ g,g∈fs.map (·.1)→g∈(du f v fs).map (·.1)
 | []=>⟨by simp [du],fun g h=>by simp at h⟩
 | (k,x)::r=>by
  obtain⟨i1,i2⟩:=dM f v r
  rw[show du f v ((k,x)::r)=(if k=f then (k,v)::r else (k,x)::du f v r) from rfl]
  by_cases hk:k=f
  ·rw[if_pos hk]
   subst hk
   exact⟨by simp,fun g h=>by simpa using h⟩
  ·rw[if_neg hk]
   refine⟨?_,fun g h=>?_⟩
   ·rw[List.map_cons]
    exact List.mem_cons_of_mem _ i1
   ·rw[List.map_cons] at h ⊢
    rcases List.mem_cons.mp h with e | e
    ·exact List.mem_cons.mpr (.inl e)
    ·exact List.mem_cons_of_mem _ (i2 g e)
theorem jg (f:Str) (v:V):∀ fs:List (Str×V),(du f v fs).length≤fs.length + 1
 | []=>by simp [du]
 | (k,x)::r=>by
  have ih:=jg f v r
  rw[show du f v ((k,x)::r)=(if k=f then (k,v)::r else (k,x)::du f v r) from rfl]
  by_cases hk:k=f
  ·rw[if_pos hk,List.length_cons,List.length_cons];omega
  ·rw[if_neg hk,List.length_cons,List.length_cons];omega
theorem gz.some_of {v:V} {o:Option Value} (r:gz (some v) o):∃ u,o=some u∧RelV v u:=by
 cases o with
 | none=>exact(show False from r).elim
 | some u=>exact⟨u,rfl,r⟩
theorem gz.none_of {o:Option Value} (r:gz none o):o=none:=by
 cases o with
 | none=>rfl
 | some u=>exact(show False from r).elim
theorem kU {v:V} {u:Value} (r:RelV v u):PySem.W.handedIn u=true:=by
 cases v with
 | non=>cases (show u=Value.none from r);rfl
 | bl b=>cases (show u=Value.bool b from r);rfl
 | int i=>obtain⟨t,e⟩:=(show ∃ t,u=Value.int i t from r);cases e;rfl
 | str x=>obtain⟨t,e⟩:=(show ∃ t,u=Value.str x t from r);cases e;rfl
 | byt b=>obtain⟨t,e⟩:=(show ∃ t,u=Value.bytes b t from r);cases e;rfl
 | flt b=>obtain⟨t,e⟩:=(show ∃ t,u=Value.float b t from r);cases e;rfl
 | ref a=>cases (show u=Value.ref a from r);rfl
 | ty n=>cases (show u=Value.type n from r);rfl
section
variable {P:Program} {w:World} {H H':Hp} {h h':Heap} {a C dx:Addr} {fs fs':List (Str×V)}
theorem jJ (hok:HOk P w H h) (e:H a=some (.ins C dx fs)):∃ mA,o_ h a dx C mA∧(∀ f,gz (fs.lookup f) (mA f))∧PySem.Within mA (fs.map (·.1))∧fs.length≤1000∧H dx=some (.own a):=by
 obtain⟨d,z,ne,ob,mA,n,r,q⟩:=(show bN P w H h a (.ins C dx fs) from hok a _ e)
 exact⟨mA,⟨ob,n,ne⟩,r,q,z,d⟩
end
structure Cls (K:PySem.W.Frag) (C:Addr):Prop where
 pg:PySem.W.plainGet K C Str.empty=true
 hd:PySem.W.hasDictIn K C=true
 po:PySem.W.plainOver K C=true
 sa:PySem.W.findIn K (.ref C) "__setattr__"=some (some (.builtin "object.__setattr__"))
theorem Cls.get {K:PySem.W.Frag} {C:Addr} (c:Cls K C) (f:Str):PySem.W.plainGet K C f=true:=c.pg
def cf (K:PySem.W.Frag) (C:Addr) (f:Str):Prop:=PySem.W.findIn K (.ref C) f=some none
theorem cf.zS {K:PySem.W.Frag} {C:Addr} {f:Str} (n:cf K C f):PySem.W.takerIn K C f=some none:=by
 unfold PySem.W.takerIn
 rw[show PySem.W.findIn K (.ref C) f=some none from n]
 rfl
structure Con (K:PySem.W.Frag) (C:Addr) (f:Str) (v:V) (u:Value):Prop where
 at_:PySem.W.findIn K (.ref C) f=some (some u)
 rel:RelV v u
 get:PySem.W.specialIn K u "__get__"=some none
 cp:PySem.W.copiedNames.contains f=false
structure Meth (K:PySem.W.Frag) (C:Addr) (m:Str) (f:Addr):Prop where
 at_:PySem.W.findIn K (.ref C) m=some (some (.ref f))
 fn:PySem.W.isFn K (.ref f)=true
 kp:PySem.W.keepIn K (.ref f)=true
section
variable {X:Cx} {pins:List (Addr×Obj)} {σ:St} {H:Hp} {s:Shared} {a C dx:Addr} {fs:List (Str×V)} {f:Str} {v:V} {A:Around} {E:Value→Shared→Prop}
theorem oO {b:Bool} {Q:Value→Shared→Prop} (I:Inv X pins σ H s) (e:H a=some (.ins C dx fs)) (c:Cls X.K C) (n:cf X.K C f) (l:fs.lookup f=some v)
  (h:∀ u s',Inv X pins σ H s'→RelV v u→Q u s'):wpAny (model X.prog X.w) A (getAttr (.ref a) f b) Q E s:=by
 obtain⟨mA,O,r,_,_,_⟩:=jJ I.hok e
 obtain⟨u,hu,ru⟩:=gz.some_of (v:=v) (o:=mA f) (by rw[← l];exact r f)
 exact get_map I.kIn O (c.get f) c.hd n hu (kU ru) (h u _ (I.tok _) ru)
theorem gP {m:Str} {g:Addr} {pl:Sem Bool} {Q:Value×List Value→Shared→Prop} (I:Inv X pins σ H s) (e:H a=some (.ins C dx fs)) (c:Cls X.K C) (k:Meth X.K C m g) (l:fs.lookup m=none)
  (h:Q (.ref g,[.ref a]) s):wpAny (model X.prog X.w) A (getMethod (.ref a) m pl) Q E s:=by
 obtain⟨mA,O,r,_,_,_⟩:=jJ I.hok e
 have hn:mA m=none:=gz.none_of (by rw[← l];exact r m)
 exact tw I.kIn O (c.get m) k.at_ k.fn hn h
theorem n5 {y:V} {u:Value} {Q:Unit→Shared→Prop} (I:Inv X pins σ H s) (e:H a=some (.ins C dx fs)) (c:Cls X.K C) (n:cf X.K C f) (hl:fs.length < 1000) (ry:RelV y u)
  (h:∀ s',Inv X pins σ (upd H a (.ins C dx (du f y fs))) s'→Q () s'):wpAny (model X.prog X.w) A (setAttr (.ref a) f u) Q E s:=by
 obtain⟨mA,O,r,wi,_,ho⟩:=jJ I.hok e
 have hz:(fs.map (·.1)).length≤sizeLine:=by rw[List.length_map,sizeLine_eq];omega
 refine uw I.kIn O c.sa c.po n.zS c.hd wi hz fun h' O' sb=>h _ ?_
 have hd:∃ o,h'.get? dx=some o:=let ⟨o,_,_,e',_⟩:=O'.ns;⟨o,e'⟩
 refine I.write (x:=a) (e:=dx) (by rw[e];exact True.intro) (.inr ho) (fun b q hb z=>(sb.2 b hb).trans z) hd ?_
 refine⟨by rw[ag O.ne];exact ho,?_,O.ne,O'.obj,_,O'.ns,fun g=>?_,fun g hg=>?_⟩
 ·have:=jg f y fs;omega
 ·show gz ((du f y fs).lookup g) (if g=f then some u else mA g)
  rw[fB]
  by_cases q:g=f
  ·rw[if_pos q,if_pos q];exact ry
  ·rw[if_neg q,if_neg q];exact r g
 ·by_cases q:g=f
  ·rw[q];exact(dM f y fs).1
  ·refine(dM f y fs).2 g (wi g fun z=>hg ?_)
   show (if g=f then some u else mA g)=none
   rw[if_neg q];exact z
theorem Inv.made (I:Inv X pins σ H s):Inv X pins σ (upd (upd H s.heap.objs.size (.own (s.heap.objs.size + 1))) (s.heap.objs.size + 1) (.ins C s.heap.objs.size []))
  { s with heap:=(s.heap.push PySem.W.emptyDict).push (PySem.W.instObj C s.heap.objs.size) }:=by
 have e1:(s.heap.push PySem.W.emptyDict).get? s.heap.objs.size=some PySem.W.emptyDict:=Heap.get?_push_size s.heap rfl
 have e2:((s.heap.push PySem.W.emptyDict).push (PySem.W.instObj C s.heap.objs.size)).get? (s.heap.objs.size + 1)=some (PySem.W.instObj C s.heap.objs.size):=by
  have:=Heap.get?_push_size (s.heap.push PySem.W.emptyDict) (o:=PySem.W.instObj C s.heap.objs.size) rfl
  rwa [Heap.size_push] at this
 have e3:(s.heap.push PySem.W.emptyDict).Ns s.heap.objs.size (fun _=>none):=⟨PySem.W.emptyDict,#[],_,e1,rfl,(fun e he=>absurd he (by simp)),fun _=>rfl⟩
 have I1:=I.laid (a:=s.heap.objs.size) (o:=.own (s.heap.objs.size + 1)) (h':=s.heap.push PySem.W.emptyDict) (t':=s.toks) (fun b u q=>Heap.get?_push_of_some _ q) (Nat.le_refl _) ⟨_,e1⟩
 refine I1.laid (a:=s.heap.objs.size + 1) (o:=.ins C s.heap.objs.size []) (t':=s.toks) (fun b u q=>Heap.get?_push_of_some _ q) (Nat.le_of_eq (Heap.size_push _ _)) ?_
 have ne:s.heap.objs.size≠s.heap.objs.size + 1:=Nat.ne_of_lt (Nat.lt_succ_self _)
 refine⟨by rw[ag ne,ax],Nat.zero_le _,ne,e2,fun _=>none,(Heap.Ns1.of_empty e3).at fun o q=>Heap.get?_push_of_some _ q,fun _=>True.intro,fun y hy=>absurd rfl hy⟩
theorem p_ {prog:Program} {w:World} {env:Env} {e:Expr} {f:Str} {pos:Pos} {s:Shared} {Q:Value→Shared→Prop} (hb:attributeBase e f env (eval e env)=eval e env)
  (h:wpAny (model prog w) A (eval e env) (fun o s₁=>wpAny (model prog w) A (getAttr o f true) Q E s₁) E s):wpAny (model prog w) A (eval (.Attribute e f pos) env) Q E s:=
 Attribute_any_ h (by rw[arm_eval_Attribute,hb])
end
def z5 (K:PySem.W.Frag) (ta:TE) (f:Str):TE:=fun σ H Q=>ta σ H fun x H1=>∃ a C dx fs v,x=.ref a∧H1 a=some (.ins C dx fs)∧Cls K C∧cf K C f∧fs.lookup f=some v∧Q v H1
def DS (K:PySem.W.Frag) (ta:TE) (f:Str):TE:=fun σ H Q=>ta σ H fun x H1=>∃ a C dx fs v u,x=.ref a∧H1 a=some (.ins C dx fs)∧Cls K C∧Con K C f v u∧fs.lookup f=none∧Q v H1
def xN (K:PySem.W.Frag) (ta tv:TE) (f:Str):TS:=fun D σ H=>tv σ H fun y H1=>ta σ H1 fun x H2=>∃ a C dx fs,x=.ref a∧H2 a=some (.ins C dx fs)∧Cls K C∧cf K C f∧fs.length < 1000∧
 D.nx σ (upd H2 a (.ins C dx (du f y fs)))
def Ei (X:Cx) (op:Operator) (rd:V→V→Hp→VK→Prop):Prop:=
 ∀ (pins:List (Addr×Obj)) (s:Shared) (σ:St) (H:Hp) (x y:V) (u v:Value) (Q:VK),Inv X pins σ H s→RelV x u→RelV y v→rd x y H Q→wpAny (model X.prog X.w) X.A (inplaceOp op u v) (EP X pins σ Q) X.xe s
def BZ (K:PySem.W.Frag) (ta tv:TE) (rd:V→V→Hp→VK→Prop) (f:Str):TS:=fun D σ H=>ta σ H fun x H1=>∃ a C dx fs v,x=.ref a∧H1 a=some (.ins C dx fs)∧Cls K C∧cf K C f∧fs.lookup f=some v∧
 tv σ H1 fun y H2=>rd v y H2 fun z H3=>∃ dx' fs',H3 a=some (.ins C dx' fs')∧fs'.length < 1000∧D.nx σ (upd H3 a (.ins C dx' (du f z fs')))
section
variable {X:Cx} {o e value:Expr} {f:Str} {pos pos' tpos:Pos} {ta tv:TE}
theorem yf (he:PE X e ta) (hb:attributeBase e f X.env (eval e X.env)=eval e X.env):PE X (.Attribute e f pos) (z5 X.K ta f):=by
 intro pins s σ H Q I h
 refine p_ hb (thn (he pins s σ H _ I h) fun u s1 ⟨x,H1,I1,rx,a,C,dx,fs,v,ex,ea,c,n,l,q⟩=>?_)
 subst ex
 obtain rfl:u=Value.ref a:=rx
 exact oO I1 ea c n l fun u' s2 I2 ru=>⟨v,H1,I2,ru,q⟩
theorem x5 (ha:PE X o ta) (hv:PE X value tv) (hs:swapsWith value (some (.Attribute o f pos')) pos.line X.env=pure false):PS X (.Assign [.Attribute o f pos'] value pos) (xN X.K ta tv f):=by
 intro pins s σ H D I h
 refine plainObj_wpAny_Assign_Attribute (thn (hv pins s σ H _ I h) fun u s1 ⟨y,H1,I1,ry,q⟩=>thn (ha pins s1 σ H1 _ I1 q) fun ov s2 ⟨x,H2,I2,rx,a,C,dx,fs,ex,ea,c,n,l,q2⟩=>?_) hs
 subst ex
 obtain rfl:ov=Value.ref a:=rx
 exact n5 I2 ea c n l ry fun s3 I3=>⟨σ,_,I3,q2⟩
def uN:V→V→Hp→VK→Prop:=fun x y H Q=>∃ i j,x=.int i∧y=.int j∧Q (.int (i + j)) H
def DX:V→V→Hp→VK→Prop:=fun x y H Q=>∃ i j,x=.int i∧y=.int j∧Q (.int (i - j)) H
theorem wG {pl:Sem Bool} {m:Str} {apos:Pos} {args:List Expr} {pins:List (Addr×Obj)} {s:Shared} {σ:St} {H:Hp} {Q:Value→Shared→Prop} {te:TE} (he:PE X e te) (I:Inv X pins σ H s)
  (h:te σ H fun x H1=>∃ a C dx fs g,x=.ref a∧H1 a=some (.ins C dx fs)∧Cls X.K C∧Meth X.K C m g∧fs.lookup m=none∧
   ∀ s1,Inv X pins σ H1 s1→wpAny (model X.prog X.w) X.A (callWith pos (.ref g) [.ref a] (backTo pos (starEach args X.env)) (backToKw pos (keywordEach [] X.env))) Q X.xe s1)
  (ht:eval (.Call (.Attribute e m apos) args [] pos) X.env=(do
   let ov ← eval e X.env
   standAt apos.atName
   let (f,first) ← holding [ov] (getMethod ov m pl)
   callWith pos f first (backTo pos (starEach args X.env)) (backToKw pos (keywordEach [] X.env)))) :
  wpAny (model X.prog X.w) X.A (eval (.Call (.Attribute e m apos) args [] pos) X.env) Q X.xe s:=by
 refine PySem.W.methodCall_KW (pl:=pl) (thn (he pins s σ H _ I h) fun u s1 ⟨x,H1,I1,rx,a,C,dx,fs,g,ex,ea,c,k,l,q⟩=>?_) ht
 subst ex
 obtain rfl:u=Value.ref a:=rx
 exact gP I1 ea c k l (q s1 I1)
end
section
variable {X:Cx} {pins:List (Addr×Obj)} {σ:St} {H:Hp} {s:Shared} {A:Around} {E:Value→Shared→Prop} {Q:Value→Shared→Prop} {c:Value} {b:Bool}
inductive gy (K:PySem.W.Frag) (H:Hp):V→Value→Prop where
 | non:gy K H .non (.type "NoneType")
 | bl (x:Bool):gy K H (.bl x) (.type "bool")
 | int (i:Int):gy K H (.int i) (.type "int")
 | str (x:Str):gy K H (.str x) (.type "str")
 | flt (x:UInt64):gy K H (.flt x) (.type "float")
 | lst {a:Addr} {xs:List V} (e:H a=some (.lst xs)):gy K H (.ref a) (.type "list")
 | frz {a:Addr} {o:Obj} {xs:List V} (e:H a=some (.frz o (.lst xs))):gy K H (.ref a) (.type "list")
 | tup {a:Addr} {xs:List V} (e:H a=some (.tup xs)):gy K H (.ref a) (.type "tuple")
 | dK {a:Addr} {kvs:List (Key×V)} (e:H a=some (.dK kvs)):gy K H (.ref a) (.type "dict")
 | dT {a:Addr} {kvs:List (List Key×V)} (e:H a=some (.dT kvs)):gy K H (.ref a) (.type "dict")
 | ins {a C dx:Addr} {fs:List (Str×V)} (e:H a=some (.ins C dx fs)) (cl:Cls K C) (ha:PySem.W.findIn K (.ref C) "__class__"=some (some (.builtin "object.__class__")))
   (hn:PySem.W.specialIn K (.builtin "object.__class__") "__get__"=some (some (.builtin "getset_descriptor.__get__"))) (htk:PySem.W.takesIn K (.builtin "object.__class__")=some true)
   (hm:PySem.W.mroIn K C (.type "object")=some true):gy K H (.ref a) (.ref C)
theorem kR {x:V} {u t:Value} (I:Inv X pins σ H s) (rx:RelV x u) (ty:gy X.K H x t) (e:PySem.W.kitOne X.K t c=some b) (h:∀ tk,Q (.bool b) { s with toks:=tk }) :
  wpAny (model X.prog X.w) A (call (.builtin "isinstance") [u,c]) Q E s:=by
 cases ty with
 | non=>cases (show u=Value.none from rx);exact PySem.W.kia_one PySem.W.kitx_none I.kIn True.intro e (fun z=>nomatch z) h
 | bl y=>cases (show u=Value.bool y from rx);exact PySem.W.kia_one PySem.W.kitx_bool I.kIn True.intro e (fun z=>nomatch z) h
 | int i=>obtain⟨t,q⟩:=(show ∃ t,u=Value.int i t from rx);cases q;exact PySem.W.kia_one PySem.W.kitx_int I.kIn True.intro e (fun z=>nomatch z) h
 | str y=>obtain⟨t,q⟩:=(show ∃ t,u=Value.str y t from rx);cases q;exact PySem.W.kia_one PySem.W.kitx_str I.kIn True.intro e (fun z=>nomatch z) h
 | flt y=>obtain⟨t,q⟩:=(show ∃ t,u=Value.float y t from rx);cases q;exact PySem.W.kia_one PySem.W.kitx_float I.kIn True.intro e (fun z=>nomatch z) h
 | @lst a xs ea=>
  cases (show u=Value.ref a from rx)
  obtain⟨_,_,n,_,h1⟩:=(show bN X.prog X.w H s.heap a (.lst xs) from I.hok a _ ea)
  exact PySem.W.kia_one PySem.W.kitx_list I.kIn ⟨_,h1,rfl⟩ e (fun z=>nomatch z) h
 | @frz a ob xs ea=>
  cases (show u=Value.ref a from rx)
  obtain⟨_,_,_,n,_,h1⟩:=(show bN X.prog X.w H s.heap a (.frz ob (.lst xs)) from I.hok a _ ea)
  exact PySem.W.kia_one PySem.W.kitx_list I.kIn ⟨_,h1,rfl⟩ e (fun z=>nomatch z) h
 | @tup a xs ea=>
  cases (show u=Value.ref a from rx)
  obtain⟨_,_,_,p⟩:=(show bN X.prog X.w H s.heap a (.tup xs) from I.hok a _ ea)
  obtain⟨o,h1,h2,_⟩:=p
  exact PySem.W.kia_one PySem.W.kitx_tuple I.kIn ⟨o,h1,h2⟩ e (fun z=>nomatch z) h
 | @dK a kvs ea=>
  cases (show u=Value.ref a from rx)
  obtain⟨_,_,vs,_,p⟩:=(show bN X.prog X.w H s.heap a (.dK kvs) from I.hok a _ ea)
  obtain⟨o,es,ep,h1,h2,_⟩:=p
  exact PySem.W.kia_one PySem.W.kitx_dict I.kIn ⟨o,h1,h2.1⟩ e (fun z=>nomatch z) h
 | @dT a kvs ea=>
  cases (show u=Value.ref a from rx)
  obtain⟨_,_,xs,_,o,es,ep,h1,h2,_⟩:=(show bN X.prog X.w H s.heap a (.dT kvs) from I.hok a _ ea)
  exact PySem.W.kia_one PySem.W.kitx_dict I.kIn ⟨o,h1,h2.1⟩ e (fun z=>nomatch z) h
 | @ins a C dx fs ea cl ha hn htk hm=>
  cases (show u=Value.ref a from rx)
  obtain⟨mA,O,_⟩:=jJ I.hok ea
  obtain⟨od,J,_⟩:=O.look
  exact PySem.W.kia_one (PySem.W.kitx_own (cl.get _) cl.hd ha hn htk hm) I.kIn J e (fun z=>nomatch z) h
end
end L2
namespace L2
open PySem PySem.Spec PyProof.Rows
structure bP (k:Nat) (A:Around):Prop where
 hd:A.handled=none
 dp:A.depth + 3 * k + 5 < recursionLimit
 un:A.units + 16 * k + 200 < cLine
 gd:A.guards=some []
theorem bP.mono {j k:Nat} {A:Around} (r:bP k A) (h:j≤k):bP j A:=⟨r.hd,by have:=r.dp;omega,by have:=r.un;omega,r.gd⟩
theorem bP.deeper {k:Nat} {A:Around} (r:bP (k + 1) A) (env:Env):bP k (A.deeper env):=
 ⟨r.hd,by have:=r.dp;show A.depth + 1 + 3 * k + 5 < _;omega,by have:=r.un;show A.units + 3 + 16 * k + 200 < _;omega,r.gd⟩
theorem oF {A:Around} {C:Addr} {us:List Value} {kw:List (Str×Value)}:(A.under (.builtin "type.__call__" ⟨.ref C::us,kw⟩)).depth=A.depth + 1:=by
 first | rfl | simp [Around.under,Code.weight,Code.isCreation,Code.isGuard,Code.isCaller,Code.frames,Code.isFrame,guardIds]
theorem oE {A:Around} {C:Addr} {us:List Value} {kw:List (Str×Value)}:(A.under (.builtin "type.__call__" ⟨.ref C::us,kw⟩)).units=A.units + 1:=by
 first | rfl | simp [Around.under,Code.cUnits,Code.frames,Code.isFrame]
theorem m3 {A:Around} {C:Addr} {us:List Value} {kw:List (Str×Value)}:(A.under (.builtin "type.__call__" ⟨.ref C::us,kw⟩)).guards=A.guards:=by
 first | rfl | simp [Around.under,pushGuards,Code.guards,Code.isGuard,guardIds] | (cases A;simp [Around.under,pushGuards,Code.guards,Code.isGuard,guardIds])
theorem bP.make {k:Nat} {A:Around} (r:bP (k + 1) A) (C:Addr) (us:List Value) (kw:List (Str×Value)):bP k (A.under (.builtin "type.__call__" ⟨.ref C::us,kw⟩)):=
 ⟨r.hd,by have:=r.dp;rw[oF];omega,by have:=r.un;rw[oE];omega,by have:=r.gd;rw[m3];exact this⟩
theorem bP.depth {k:Nat} {A:Around} (r:bP k A):A.depth < recursionLimit:=by have:=r.dp;omega
theorem bP.units {k:Nat} {A:Around} (r:bP k A):A.units + 64 < cLine:=by have:=r.un;omega
def jS:TA:=fun _ H Q=>Q [] H
def hX (ta:TE) (tr:TA):TA:=fun σ H Q=>ta σ H fun x H1=>tr σ H1 fun xs H2=>Q (x::xs) H2
section
variable {X:Cx} {e:Expr} {es:List Expr} {te:TE} {t:TA} {pos:Pos}
theorem fm:PA X [] jS:=fun _ _ _ _ H Q I h=>Calls.spliced_nil ⟨[],H,I,.nil,h⟩
theorem cJ (ha:PE X e te) (hr:PA X es t) (hs:starEach (e::es) X.env=(false,eval e X.env)::starEach es X.env:=by rfl):PA X (e::es) (hX te t):=by
 intro pos pins s σ H Q I h
 rw[hs]
 show wpAny _ _ (spliced ((false,eval e X.env)::backTo pos (starEach es X.env))) _ _ s
 refine Calls.spliced_cons (thn (ha pins s σ H _ I h) fun u s1 ⟨x,H1,I1,r1,q1⟩=>?_)
 exact thn (hr pos pins s1 σ H1 _ I1 q1) fun us s2 ⟨xs,H2,I2,r2,q2⟩=>⟨x::xs,H2,I2,.cons r1 r2,q2⟩
def zU (t:TA):TE:=fun σ H Q=>t σ H fun xs H1=>xs.length≤sizeLine∧∀ p,H1 p=none→Q (.ref p) (upd H1 p (.tup xs))
def zX (t:TA):TE:=fun σ H Q=>t σ H fun xs H1=>xs.length≤sizeLine∧∀ p,H1 p=none→Q (.ref p) (upd H1 p (.lst xs))
theorem yb {x1} (h:PA X es t):PE X (.Tuple es x1 pos) (zU t):=by
 intro pins s σ H Q I hq
 refine wpAny_Tuple_spliced (thn (h pos pins s σ H _ I hq) fun us s1 ⟨xs,H1,I1,r,z,q⟩=>⟨by rw[← r.length];exact z,?_⟩)
 have hf:H1 s1.heap.objs.size=none:=I1.hok.fresh (Nat.le_refl _)
 refine⟨.ref s1.heap.objs.size,upd H1 s1.heap.objs.size (.tup xs),I1.laid (t':=s1.toks) (fun b u e=>Heap.get?_push_of_some _ e) (Nat.le_refl _) ?_,rfl,q _ hf⟩
 exact⟨z,us,r,⟨_,Heap.get?_push_size _ rfl,rfl,_,rfl⟩⟩
theorem ye (h:PA X es t):PE X (.List es pos) (zX t):=by
 intro pins s σ H Q I hq
 refine wpAny_List_spliced (thn (h pos pins s σ H _ I hq) fun us s1 ⟨xs,H1,I1,r,z,q⟩=>⟨by rw[← r.length];exact z,?_⟩)
 have hf:H1 s1.heap.objs.size=none:=I1.hok.fresh (Nat.le_refl _)
 refine⟨.ref s1.heap.objs.size,upd H1 s1.heap.objs.size (.lst xs),I1.laid (t':=s1.toks) (fun b u e=>Heap.get?_push_of_some _ e) (Nat.le_refl _) ?_,rfl,q _ hf⟩
 exact⟨z,us,0,r,Heap.get?_push_size _ rfl⟩
end
abbrev Sp:=List V→Hp→VK→XK→Prop
abbrev CXT:=List Env→Hp→Shared→XK→Value→Shared→Prop
structure pd (P:Program) (w:World) (K:PySem.W.Frag) (mg:Str→Option Value) (base:Heap) (A:Around) (outer:List Env) (s:Shared) (H:Hp):Prop where
 frames:A.frames=some outer
 mod:Mod K mg base
 bs:∀ b o,base.get? b=some o→s.heap.get? b=some o∧H b=none
 bsz:base.objs.size≤s.heap.objs.size
 eZ:s.heap.FunFrames base outer
 frf:∀ b∈frs outer,H b=none
 hok:HOk P w H s.heap
 bare:AllBare s.gens
def CE (outer:List Env) (P:Program) (w:World) (H:Hp) (s:Shared) (Q:VK) (u:Value) (s':Shared):Prop:=
 ∃ v H',s'.os=s.os∧AllBare s'.gens∧Un (frs outer) [] H H' s.heap s'.heap∧HOk P w H' s'.heap∧RelV v u∧Q v H'
def CR (CX:CXT) (outer:List Env) (P:Program) (w:World) (H:Hp) (s:Shared) (Q:VK) (E:XK) (r:Result) (s':Shared):Prop:=
 match r with
 | .ok (.ret u)=>CE outer P w H s Q u s'
 | .ok _=>False
 | .error e=>CX outer H s E e s'
structure aX (P:Program) (w:World) (K:PySem.W.Frag) (mg:Str→Option Value) (base:Heap) (CX:CXT) (k:Nat) (f:Addr) (fd:FuncData) (ps:List Str) (sp:Sp):Prop where
 len:∀ vs H Q E,sp vs H Q E→vs.length=ps.length
 run:∀ (A:Around) (outer:List Env) (s:Shared) (H:Hp) (args:Args) (us:List Value) (vs:List V) (Q:VK) (E:XK),bP k A→pd P w K mg base A outer s H→BindsTo s fd args (ps.zip us)→Vals vs us→sp vs H Q E→
  codeAny (model P w) A (.call (.ref f) args) (CR CX outer P w H s Q E) s
theorem aX.imp {P:Program} {w:World} {K:PySem.W.Frag} {mg:Str→Option Value} {base:Heap} {CX:CXT} {k:Nat} {f:Addr} {fd:FuncData} {ps:List Str} {sp sp':Sp} (F:aX P w K mg base CX k f fd ps sp)
  (h:∀ vs H Q E,sp' vs H Q E→sp vs H Q E):aX P w K mg base CX k f fd ps sp':=
 ⟨fun vs H Q E q=>F.len vs H Q E (h _ _ _ _ q),fun A outer s H args us vs Q E hr he hb hv hs=>F.run A outer s H args us vs Q E hr he hb hv (h _ _ _ _ hs)⟩
theorem pd.make {P:Program} {w:World} {K:PySem.W.Frag} {mg:Str→Option Value} {base:Heap} {A:Around} {outer:List Env} {s:Shared} {H:Hp} (e:pd P w K mg base A outer s H) (C:Addr) (us:List Value) (kw:List (Str×Value)) :
  pd P w K mg base (A.under (.builtin "type.__call__" ⟨.ref C::us,kw⟩)) outer s H:=⟨by first | exact e.frames | (simpa [Around.under,Code.envs,Code.isFrame,pushEnvs] using e.frames),e.mod,e.bs,e.bsz,e.eZ,e.frf,e.hok,e.bare⟩
section
variable {X:Cx} {pins:List (Addr×Obj)} {σ:St} {H:Hp} {s s':Shared}
theorem Inv.vR (I:Inv X pins σ H s):pd X.prog X.w X.K X.mg X.base X.A X.stack s H:=
 ⟨I.ok.frames,I.ok.mod,I.bs,Nat.le_trans I.ok.bsz I.sz,I.stack,I.lD,I.hok,I.bare⟩
theorem Inv.after {Q:VK} {u:Value} (I:Inv X pins σ H s) (h:CE X.stack X.prog X.w H s Q u s'):EP X pins σ Q u s':=by
 obtain⟨v,H',os,bare,un,hok,r,q⟩:=h
 obtain⟨hh,g,d,t,os'⟩:=s'
 obtain rfl:os'=s.os:=os
 exact⟨v,H',I.call (h':=hh) (g':=g) (d':=d) (t':=t) (ch:=[]) un hok bare (fun b z=>absurd z (by simp)),r,q⟩
end
def pw (sp:Sp) (dvs:List V) (E:XK) (t:TA):TE:=fun σ H Q=>t σ H fun vs H1=>sp (vs++dvs) H1 Q E
def kG (C:Addr) (m:Str) (sp:Sp) (dvs:List V) (E:XK) (ta:TE) (t:TA):TE:=fun σ H Q=>ta σ H fun x H1=>∃ a dx fs,x=.ref a∧H1 a=some (.ins C dx fs)∧fs.lookup m=none∧
 t σ H1 fun vs H2=>sp (x::(vs++dvs)) H2 Q E
def pv (C:Addr) (sp:Sp) (dvs:List V) (E:XK) (t:TA):TE:=fun σ H Q=>t σ H fun vs H1=>∀ x dx,H1 x=none→H1 dx=none→dx≠x→
 sp (.ref x::(vs++dvs)) (upd (upd H1 dx (.own x)) x (.ins C dx [])) (fun v H2=>v=.non∧Q (.ref x) H2) E
def Binds (K:PySem.W.Frag) (fd:FuncData) (ps:List Str) (ds:List Value):Prop:=
 ∀ (s:Shared) (us:List Value),K.In s.heap→(us++ds).length=ps.length→BindsTo s fd ⟨us,[]⟩ (ps.zip (us++ds))
theorem Binds.all {K:PySem.W.Frag} {fd:FuncData} {ps:List Str} (h:∀ us:List Value,us.length=ps.length→bindArgs fd ⟨us,[]⟩=pure (ps.zip us)):Binds K fd ps []:=fun s us _ hl=>by
 rw[List.append_nil] at hl ⊢
 exact .of_eq (h us hl)
def Passes (CX:CXT) (X:Cx) (E:XK):Prop:=∀ (pins:List (Addr×Obj)) (σ:St) (H:Hp) (s:Shared) (e:Value) (s':Shared),Inv X pins σ H s→CX X.stack H s E e s'→X.xe e s'
section
variable {X:Cx} {CX:CXT} {k:Nat} {f C:Addr} {fd:FuncData} {ps:List Str} {sp:Sp} {dvs:List V} {ds:List Value} {E:XK} {x m:Str} {p pos apos:Pos} {e o:Expr} {es:List Expr} {ta:TE} {t:TA}
theorem lM {pins:List (Addr×Obj)} {σ:St} {H:Hp} {s:Shared} {Q:VK} {us:List Value} {vs:List V} (F:aX X.prog X.w X.K X.mg X.base CX k f fd ps sp) (hr:bP k X.A) (hb:Binds X.K fd ps ds) (hd:Vals dvs ds) (hx:Passes CX X E)
  (I:Inv X pins σ H s) (r:Vals vs us) (h:sp (vs++dvs) H Q E):wpAny (model X.prog X.w) X.A (call (.ref f) us) (EP X pins σ Q) X.xe s:=by
 have r2:Vals (vs++dvs) (us++ds):=r.append hd
 have hl:(us++ds).length=ps.length:=by rw[← r2.length];exact F.len _ _ _ _ h
 refine wpAny_call (codeAny_mono (F.run X.A X.stack s H ⟨us,[]⟩ (us++ds) (vs++dvs) Q E hr I.vR (hb s us I.kIn hl) r2 h) fun r s' hq=>?_)
 cases r with
 | error e=>exact hx pins σ H s e s' I hq
 | ok fl=>
  cases fl with
  | ret u=>exact I.after hq
  | next=>exact False.elim hq
  | brk=>exact False.elim hq
  | cont=>exact False.elim hq
theorem u_ (F:aX X.prog X.w X.K X.mg X.base CX k f fd ps sp) (hr:bP k X.A) (hg:Gl X x) (hm:X.mg x=some (.ref f)) (hk:PySem.W.keepIn X.K (.ref f)=true) (hb:Binds X.K fd ps ds) (hd:Vals dvs ds) (hx:Passes CX X E)
  (ha:PA X (e::es) t) (hdb:(x == ("__debug__":Str))=false:=by decide) (he:starEach (e::es) X.env=(false,eval e X.env)::starEach es X.env:=by rfl) (hpl:(backTo pos (starEach es X.env)).any (·.1)=false:=by rfl) :
  PE X (.Call (.Name x p) (e::es) [] pos) (pw sp dvs E t):=by
 intro pins s σ H Q I h
 refine wpAny_Call_Name_kw (el I hg hm ?_ hdb)
 refine PySem.W.callWith_K (h₀:=X.base) I.ok.mod.kin hk (thn (ha pos pins s σ H _ I h) fun us s1 ⟨vs,H1,I1,r,q⟩=>⟨I1.kIn,?_⟩) he hpl
 exact lM F hr hb hd hx I1 r q
theorem uY {pl:Sem Bool} (he:PE X o ta) (c:Cls X.K C) (hm:Meth X.K C m f) (F:aX X.prog X.w X.K X.mg X.base CX k f fd ps sp) (hr:bP k X.A) (hb:Binds X.K fd ps ds) (hd:Vals dvs ds) (hx:Passes CX X E) (ha:PA X (e::es) t)
  (hst:starEach (e::es) X.env=(false,eval e X.env)::starEach es X.env:=by rfl) (hpl:(backTo pos (starEach es X.env)).any (·.1)=false:=by rfl)
  (ht:eval (.Call (.Attribute o m apos) (e::es) [] pos) X.env=(do
   let ov ← eval o X.env
   standAt apos.atName
   let (f,first) ← holding [ov] (getMethod ov m pl)
   callWith pos f first (backTo pos (starEach (e::es) X.env)) (backToKw pos (keywordEach [] X.env))):=by rfl) :
  PE X (.Call (.Attribute o m apos) (e::es) [] pos) (kG C m sp dvs E ta t):=by
 intro pins s σ H Q I h
 refine PySem.W.methodCall_KW (pl:=pl) (thn (he pins s σ H _ I h) fun u s1 ⟨x,H1,I1,rx,a,dx,fs,ex,ea,l,q⟩=>?_) ht
 subst ex
 obtain rfl:u=Value.ref a:=rx
 refine gP I1 ea c hm l ?_
 refine PySem.W.callWith_K (first:=[.ref a]) (h₀:=X.base) I.ok.mod.kin hm.kp (thn (ha pos pins s1 σ H1 _ I1 q) fun us s2 ⟨vs,H2,I2,r,q2⟩=>⟨I2.kIn,?_⟩) hst hpl
 exact lM (us:=.ref a::us) (vs:=.ref a::vs) F hr hb hd hx I2 (.cons rfl r) q2
theorem r8 {pl:Sem Bool} (he:PE X o ta) (c:Cls X.K C) (hm:Meth X.K C m f) (F:aX X.prog X.w X.K X.mg X.base CX k f fd ps sp) (hr:bP k X.A) (hb:Binds X.K fd ps ds) (hd:Vals dvs ds) (hx:Passes CX X E)
  (ht:eval (.Call (.Attribute o m apos) [] [] pos) X.env=(do
   let ov ← eval o X.env
   standAt apos.atName
   let (f,first) ← holding [ov] (getMethod ov m pl)
   callWith pos f first (backTo pos (starEach [] X.env)) (backToKw pos (keywordEach [] X.env))):=by rfl) :
  PE X (.Call (.Attribute o m apos) [] [] pos) (kG C m sp dvs E ta jS):=by
 intro pins s σ H Q I h
 refine PySem.W.methodCall_KW (pl:=pl) (thn (he pins s σ H _ I h) fun u s1 ⟨x,H1,I1,rx,a,dx,fs,ex,ea,l,q⟩=>?_) ht
 subst ex
 obtain rfl:u=Value.ref a:=rx
 refine gP I1 ea c hm l ?_
 exact PySem.W.callWith_K0 (first:=[.ref a]) I1.kIn hm.kp (lM (us:=[.ref a]) (vs:=[.ref a]) F hr hb hd hx I1 (.cons rfl .nil) q)
structure Mk (K:PySem.W.Frag) (C f:Addr):Prop where
 makes:PySem.W.makesIn K C=true
 init:PySem.W.findIn K (.ref C) "__init__"=some (some (.ref f))
 fn:PySem.W.isFn K (.ref f)=true
 kp:PySem.W.keepIn K (.ref C)=true
theorem rE {pins:List (Addr×Obj)} {σ:St} {H:Hp} {s:Shared} {Q:VK} {us:List Value} {vs:List V} (M:Mk X.K C f) (F:aX X.prog X.w X.K X.mg X.base CX k f fd ps sp) (hr:bP (k + 1) X.A) (hb:Binds X.K fd ps ds) (hd:Vals dvs ds)
  (hx:Passes CX X E) (I:Inv X pins σ H s) (r:Vals vs us)
  (h:∀ x dx,H x=none→H dx=none→dx≠x→sp (.ref x::(vs++dvs)) (upd (upd H dx (.own x)) x (.ins C dx [])) (fun v H2=>v=.non∧Q (.ref x) H2) E) :
  wpAny (model X.prog X.w) X.A (call (.ref C) us) (EP X pins σ Q) X.xe s:=by
 have hq:=h (s.heap.objs.size + 1) s.heap.objs.size (I.hok.fresh (Nat.le_succ _)) (I.hok.fresh (Nat.le_refl _)) (Nat.ne_of_lt (Nat.lt_succ_self _))
 have I2:=Inv.made (C:=C) I
 have r2:Vals (V.ref (s.heap.objs.size + 1)::(vs++dvs)) (Value.ref (s.heap.objs.size + 1)::(us++ds)):=.cons rfl (r.append hd)
 have hl:(Value.ref (s.heap.objs.size + 1)::us++ds).length=ps.length:=by
  have e:=r2.length
  rw[F.len _ _ _ _ hq] at e
  exact e.symm
 refine wpAny_call (sL (f:=f) I.kIn M.makes M.init (beq_iff_eq.mp M.fn) (codeAny_mono (F.run _ X.stack _ _ ⟨Value.ref (s.heap.objs.size + 1)::us,[]⟩ (Value.ref (s.heap.objs.size + 1)::(us++ds)) _ _ E (hr.make C us [])
  (I2.vR.make C us []) (hb _ (Value.ref (s.heap.objs.size + 1)::us) I2.kIn hl) r2 hq) fun r s' hq'=>?_))
 cases r with
 | error e=>exact hx pins σ _ _ e s' I2 hq'
 | ok fl=>
  cases fl with
  | ret u=>
   obtain⟨v,H',I3,rv,ev,q3⟩:=I2.after hq'
   subst ev
   exact⟨rv,⟨V.ref (s.heap.objs.size + 1),H',I3,rfl,q3⟩⟩
  | next=>exact False.elim hq'
  | brk=>exact False.elim hq'
  | cont=>exact False.elim hq'
theorem uZ (M:Mk X.K C f) (F:aX X.prog X.w X.K X.mg X.base CX k f fd ps sp) (hr:bP (k + 1) X.A) (hg:Gl X x) (hm:X.mg x=some (.ref C)) (hb:Binds X.K fd ps ds) (hd:Vals dvs ds) (hx:Passes CX X E)
  (ha:PA X (e::es) t) (hdb:(x == ("__debug__":Str))=false:=by decide) (he:starEach (e::es) X.env=(false,eval e X.env)::starEach es X.env:=by rfl) (hpl:(backTo pos (starEach es X.env)).any (·.1)=false:=by rfl) :
  PE X (.Call (.Name x p) (e::es) [] pos) (pv C sp dvs E t):=by
 intro pins s σ H Q I h
 refine wpAny_Call_Name_kw (el I hg hm ?_ hdb)
 refine PySem.W.callWith_K (h₀:=X.base) I.ok.mod.kin M.kp (thn (ha pos pins s σ H _ I h) fun us s1 ⟨vs,H1,I1,r,q⟩=>⟨I1.kIn,?_⟩) he hpl
 exact rE M F hr hb hd hx I1 r q
end
def PK (X:Cx) (kws:List Keyword) (t:TA):Prop:=
 ∀ (pos:Pos) (pins:List (Addr×Obj)) (s:Shared) (σ:St) (H:Hp) (Q:List V→Hp→Prop),Inv X pins σ H s→t σ H Q→wpAny (model X.prog X.w) X.A (evalAll ((backToKw pos (keywordEach kws X.env)).map (·.2))) (AP X pins σ Q) X.xe s
section
variable {X:Cx} {CX:CXT} {k:Nat} {f C:Addr} {fd:FuncData} {ps ks:List Str} {sp:Sp} {E:XK} {x m:Str} {p pos apos kpos:Pos} {e o:Expr} {es:List Expr} {kws:List Keyword} {te ta:TE} {t tk:TA} {nm:Option Str}
structure Df (K:PySem.W.Frag) (fd:FuncData) (ps ks:List Str) (g:List Value→List Value→List Value) (gV:List V→List V→List V):Prop where
 to:∀ (s:Shared) (us ws:List Value),K.In s.heap→(g us ws).length=ps.length→BindsTo s fd ⟨us,ks.zip ws⟩ (ps.zip (g us ws))
 rel:∀ {vs:List V} {us:List Value} {zs:List V} {ws:List Value},Vals vs us→Vals zs ws→Vals (gV vs zs) (g us ws)
def Ce (sp:Sp) (gV:List V→List V→List V) (E:XK) (t tk:TA):TE:=fun σ H Q=>t σ H fun vs H1=>tk σ H1 fun zs H2=>sp (gV vs zs) H2 Q E
variable {g:List Value→List Value→List Value} {gV:List V→List V→List V}
end
structure aJ (N P:List Str) (sc:Scope):Prop where
 kind:sc.kind=.function
 co:sc.isCoroutine=false
 gen:sc.isGenerator=false
 nd:N.Nodup
 pre:N.take P.length=P
 par:∀ x∈P,sc.names.lookup x=some .local∨sc.names.lookup x=some .cell
 nofree:∀ y∈sc.names,y.2≠.free
theorem lg {kindOf:Str→Option NameKind} {x:Str}:∀ {binds:List (Str×Value)} {m:Str→Option Value},(∀ v,(x,v)∉binds)→bindL kindOf binds m x=m x
 | [],_,_=>rfl
 | (n,v)::r,m,h=>by
  unfold bindL
  rw[lg fun w hw=>h w (List.mem_cons_of_mem _ hw)]
  split
  ·have:x≠n:=by rintro rfl;exact h v List.mem_cons_self
   simp [this]
  ·rfl
theorem lp {kindOf:Str→Option NameKind} {x:Str}:∀ {binds:List (Str×Value)} {m:Str→Option Value},(∀ v,(x,v)∉binds)→bindC kindOf binds m x=m x
 | [],_,_=>rfl
 | (n,v)::r,m,h=>by
  unfold bindC
  rw[lp fun w hw=>h w (List.mem_cons_of_mem _ hw)]
  split
  ·rfl
  ·have:x≠n:=by rintro rfl;exact h v List.mem_cons_self
   simp [this]
theorem lh {kindOf:Str→Option NameKind} {x:Str} {v:Value}:∀ {P:List Str} {vs:List Value} {i:Nat} {m:Str→Option Value},P.Nodup→P[i]?=some x→vs[i]?=some v→kindOf x=some .local→
  bindL kindOf (P.zip vs) m x=some v
 | [],_,_,_,_,h,_,_=>by simp at h
 | _::_,[],_,_,_,_,h,_=>by simp at h
 | p::P,w::vs,0,m,nd,h1,h2,hk=>by
  simp at h1 h2;subst h1;subst h2
  show bindL kindOf ((p,w)::P.zip vs) m p=_
  unfold bindL
  rw[lg fun v hv=>(List.nodup_cons.mp nd).1 (List.of_mem_zip hv).1,if_pos hk]
  simp
 | p::P,w::vs,i + 1,m,nd,h1,h2,hk=>by
  show bindL kindOf ((p,w)::P.zip vs) m x=_
  unfold bindL
  exact lh (i:=i) (List.nodup_cons.mp nd).2 (by simpa using h1) (by simpa using h2) hk
theorem lq {kindOf:Str→Option NameKind} {x:Str} {v:Value}:∀ {P:List Str} {vs:List Value} {i:Nat} {m:Str→Option Value},P.Nodup→P[i]?=some x→vs[i]?=some v→kindOf x≠some .local→
  bindC kindOf (P.zip vs) m x=some v
 | [],_,_,_,_,h,_,_=>by simp at h
 | _::_,[],_,_,_,_,h,_=>by simp at h
 | p::P,w::vs,0,m,nd,h1,h2,hk=>by
  simp at h1 h2;subst h1;subst h2
  show bindC kindOf ((p,w)::P.zip vs) m p=_
  unfold bindC
  rw[lp fun v hv=>(List.nodup_cons.mp nd).1 (List.of_mem_zip hv).1,if_neg hk]
  simp
 | p::P,w::vs,i + 1,m,nd,h1,h2,hk=>by
  show bindC kindOf ((p,w)::P.zip vs) m x=_
  unfold bindC
  exact lq (i:=i) (List.nodup_cons.mp nd).2 (by simpa using h1) (by simpa using h2) hk
def start (N:List Str) (vs:List V):St:=vs.map some++List.replicate (N.length - vs.length) none
def i5 (CX:CXT) (P:Program) (w:World) (K:PySem.W.Frag) (mg:Str→Option Value) (base:Heap) (N:List Str) (qual:Str) (scope:Scope) (f:Addr) (cd:Value) (A:Around) (outer:List Env) (s:Shared) (H:Hp) (E:XK):Cx where
 prog:=P
 w:=w
 K:=K
 mg:=mg
 base:=base
 A:=A.deeper (envOfC qual scope s.heap.objs.size f cd)
 N:=N
 s₀:=s
 H₀:=H
 env:=envOfC qual scope s.heap.objs.size f cd
 outer:=outer
 stack:=envOfC qual scope s.heap.objs.size f cd::outer
 ex:=[]
 calm:=true
 fn:=fun _=>true
 pn:=[]
 xe:=fun e s'=>wpAny (model P w) (A.deeper (envOfC qual scope s.heap.objs.size f cd)) (leaving (envOfC qual scope s.heap.objs.size f cd) e) (fun _ s''=>CX outer H s E e s'') (fun e' s''=>CX outer H s E e' s'') s'
theorem nv {sc:Scope} {n:Nat} {x:Str} (h:sc.names.lookup x=some .cell):∃ c,(cellsFrom n sc.names []).lookup x=some c:=by
 have q:=PySem.W.cellsFrom_some sc.names n [] (.inl h)
 exact Option.isSome_iff_exists.mp q
theorem qH {CX:CXT} {P:Program} {w:World} {K:PySem.W.Frag} {mg:Str→Option Value} {base:Heap} {N ps:List Str} {qual:Str} {scope:Scope} {f:Addr} {cd:Value} {A:Around} {outer:List Env} {s s1:Shared} {H:Hp} {E:XK} {us:List Value} {vs:List V}
  (S:aJ N ps scope) (hd:A.handled=none) (e0:pd P w K mg base A outer s H) (hl:vs.length=ps.length) (r:Vals vs us)
  (x:InCallC s s.heap.objs.size (bindL (envOfC qual scope s.heap.objs.size f cd).kindOf (ps.zip us) fun _=>none) (cellsFrom (s.heap.objs.size + 1) scope.names []) (bindC (envOfC qual scope s.heap.objs.size f cd).kindOf (ps.zip us) fun _=>none) s1) :
  Inv (i5 CX P w K mg base N qual scope f cd A outer s H E) [] (start N vs) H s1:=by
 have hpl:ps.length≤N.length:=by have:=congrArg List.length S.pre;rw[List.length_take] at this;omega
 obtain⟨h1,tk,rfl,hk⟩:=x.done
 have noA:∀ b:Addr,b∉(i5 CX P w K mg base N qual scope f cd A outer s H E).ex:=fun b z=>absurd (show b∈([]:List Addr) from z) (by simp)
 refine⟨⟨e0.mod,S.kind,rfl,rfl,Nat.le_refl _,fun y z c h1 h2=>?_,fun y hy=>?_,fun y c _ h=>?_,fun _=>hd,Around.frames_deeper e0.frames,.inr ⟨rfl,rfl⟩,fun b z=>absurd z (noA b),e0.bs,e0.bsz,fun b _ _=>noA b,fun b z=>absurd z (noA b),e0.eZ,e0.frf⟩,
  rfl,e0.bare,Un.kept hk,⟨_,x.toInCall.ns,fun i y v h1 h2 h3=>?_⟩,fun y c h=>⟨_,x.cell y c h⟩,e0.hok.fresh (Nat.le_refl _),fun y c h=>?_,fun p hp=>absurd (show p∈([]:List (Addr×Obj)) from hp) (by simp),e0.hok.kept hk,?_⟩
 ·exact name_of_addr x.apart (PySem.mem_of_lookup h1) (PySem.mem_of_lookup h2)
 ·have hy:scope.names.lookup y=some .cell∨scope.names.lookup y=some .free:=hy
  rcases hy with hy | hy
  ·exact nv hy
  ·exact absurd rfl (S.nofree _ (PySem.mem_of_lookup hy))
 ·exact Nat.le_of_lt (x.above y c (PySem.mem_of_lookup h))
 ·have hi:i < vs.length:=by
   unfold start at h2
   by_cases hi:i < vs.length
   ·exact hi
   ·rw[List.getElem?_append_right (by simpa using hi)] at h2
    rw[List.getElem?_replicate] at h2
    split at h2 <;> cases h2
  have ha:vs[i]?=some v:=by
   unfold start at h2
   rw[List.getElem?_append_left (by simpa using hi),List.getElem?_map] at h2
   cases e:vs[i]? with
   | none=>rw[e] at h2;cases h2
   | some a=>rw[e] at h2;cases h2;rfl
  obtain⟨u,hu,rv⟩:=r.get ha
  have hp:ps[i]?=some y:=by
   rw[← S.pre,List.getElem?_take_of_lt (by omega)];exact h1
  have ndP:ps.Nodup:=by rw[← S.pre];exact S.nd.sublist (List.take_sublist _ _)
  refine⟨u,rv,?_⟩
  rcases S.par y (List.mem_of_getElem? hp) with k | k
  ·exact .inl ⟨k,lh ndP hp hu k⟩
  ·obtain⟨c,e⟩:=nv (n:=s.heap.objs.size + 1) k
   refine .inr ⟨.inl k,c,e,?_⟩
   have q:=x.cell y c e
   rw[lq ndP hp hu (by show scope.names.lookup y≠_;rw[k];decide)] at q
   exact q
 ·exact e0.hok.fresh (Nat.le_of_lt (x.above y c (PySem.mem_of_lookup h)))
 ·unfold start
  show _=N.length
  rw[List.length_append,List.length_map,List.length_replicate]
  omega
theorem w5 {CX:CXT} {P:Program} {w:World} {K:PySem.W.Frag} {mg:Str→Option Value} {base:Heap} {k:Nat} {f:Addr} {name qual:Str} {params:Arguments} {body:List Stmt} {scope:Scope} {dV kV doc pm cdv ct oc:Value} {an od:Option Addr}
  {osl:Array (Option Value)} {N ps:List Str} {sp:Sp} (lk:K.lookup f=some ⟨oc,od,.func (PySem.W.fnOf name qual params body scope dV kV doc pm an cdv ct),osl⟩) (hcd:PySem.W.codeIn K cdv qual=true) (S:aJ N ps scope)
  (len:∀ vs H Q E,sp vs H Q E→vs.length=ps.length)
  (hbody:∀ (A:Around) (outer:List Env) (s:Shared) (H:Hp) (vs:List V) (Q:VK) (E:XK),bP k (A.deeper (envOfC qual scope s.heap.objs.size f cdv))→sp vs H Q E→
   ∃ t,PSs (i5 CX P w K mg base N qual scope f cdv A outer s H E) body t∧t { nx:=fun _ H'=>Q .non H',rt:=Q } (start N vs) H) :
  aX P w K mg base CX (k + 1) f (PySem.W.fnOf name qual params body scope dV kV doc pm an cdv ct) ps sp:=by
 refine⟨len,fun A outer s H args us vs Q E hr e0 hb r hsp=>?_⟩
 have hl:=len _ _ _ _ hsp
 have KX:K.In s.heap:=e0.mod.kin.keeps fun b o e=>(e0.bs b o e).1
 have lim:s.heap.NoLimit:=e0.mod.nolimit.keeps fun b o e=>(e0.bs b o e).1
 have hkind:∀ y∈ps.zip us,scope.names.lookup y.1=some .local∨(scope.names.lookup y.1=some .cell∧((cellsFrom (s.heap.objs.size + 1) scope.names []).lookup y.1).isSome=true):=fun ⟨n,v⟩ hy=>by
  rcases S.par n (List.of_mem_zip hy).1 with q | q
  ·exact .inl q
  ·exact .inr ⟨q,PySem.W.cellsFrom_some _ _ _ (.inl q)⟩
 refine codeAny_call_function hr.depth (KX _ _ lk) rfl S.co S.gen rfl (PySem.W.codeRec_of KX hcd) (hb _ _ _ _ ?_)
 refine wpAny_newFunctionEnv_cells S.kind hkind fun env he s1 x=>?_
 subst he
 refine⟨lim.keeps x.toInCall.keep,codeAny_func ?_⟩
 obtain⟨t,ht,hq⟩:=hbody A outer s H vs Q E (hr.deeper _) hsp
 have I:Inv (i5 CX P w K mg base N qual scope f cdv A outer s H E) [] (start N vs) H s1:=qH S hr.hd e0 hl r x
 refine wpAny_mono (ht [] s1 (start N vs) H _ I hq) (fun fl s' hs=>?_) fun e s' hs=>hs
 have fin:∀ {σ':St} {H':Hp} {v:V} {u:Value},Inv (i5 CX P w K mg base N qual scope f cdv A outer s H E) [] σ' H' s'→RelV v u→Q v H'→CE outer P w H s Q u s':=
  fun {σ' H' v u} J rv q=>⟨v,H',J.os,J.bare,J.base,J.hok,rv,q⟩
 cases fl with
 | ret u=>
  obtain⟨v,σ',H',J,rv,q⟩:=hs
  exact fin J rv q
 | next=>
  obtain⟨σ',H',J,q⟩:=hs
  exact fin (v:=V.non) (u:=Value.none) J rfl q
 | brk=>
  obtain⟨_,_,_,q⟩:=hs
  exact False.elim q
 | cont=>
  obtain⟨_,_,_,q⟩:=hs
  exact False.elim q
end L2
namespace L2
open PySem PySem.Spec PyProof.Rows
section
variable {X:Cx} {x:Str} {p pos:Pos} {e:Expr} {es:List Expr} {t:TA} {id T:String} {r:List V→Hp→VK→Prop}
def tCB (r:List V→Hp→VK→Prop) (t:TA):TE:=fun σ H Q=>t σ H fun vs H1=>r vs H1 Q
theorem se (hc:bQ X (.builtin id) r) (hg:Gl X x) (hm:X.mg x=none) (hv:bootBuiltins x=some (.builtin id)) (ha:PA X (e::es) t) (hn:x≠"__name__":=by decide) (hdb:(x == ("__debug__":Str))=false:=by decide)
  (he:starEach (e::es) X.env=(false,eval e X.env)::starEach es X.env:=by rfl) (hpl:(backTo pos (starEach es X.env)).any (·.1)=false:=by rfl):PE X (.Call (.Name x p) (e::es) [] pos) (tCB r t):=by
 intro pins s σ H Q I h
 refine wpAny_Call_Name_kw (iV I hg hm hv ?_ hn hdb)
 exact PyProof.Rows.callWith_builtin1 (thn (ha pos pins s σ H _ I h) fun us s1 ⟨vs,H1,I1,r1,q1⟩=>hc pins s1 σ H1 vs us Q I1 r1 q1) he hpl
theorem qy (hc:bQ X (.type T) r) (hg:Gl X x) (hm:X.mg x=none) (hv:bootBuiltins x=some (.type T)) (ha:PA X (e::es) t) (hn:x≠"__name__":=by decide) (hdb:(x == ("__debug__":Str))=false:=by decide)
  (he:starEach (e::es) X.env=(false,eval e X.env)::starEach es X.env:=by rfl) (hpl:(backTo pos (starEach es X.env)).any (·.1)=false:=by rfl):PE X (.Call (.Name x p) (e::es) [] pos) (tCB r t):=by
 intro pins s σ H Q I h
 refine wpAny_Call_Name_kw (iV I hg hm hv ?_ hn hdb)
 exact PyProof.Rows.callWith_type1 (thn (ha pos pins s σ H _ I h) fun us s1 ⟨vs,H1,I1,r1,q1⟩=>hc pins s1 σ H1 vs us Q I1 r1 q1) he hpl
end
end L2
namespace HT
open PySem PyProof.Rows
def lexLt:List Int→List Int→Bool
 | [],[]=>false
 | [],_::_=>true
 | _::_,[]=>false
 | x::xs,y::ys=>if x=y then lexLt xs ys else decide (x < y)
section
open PySem.SeqAt
open PySem.AutoSeq1 (wpAny_loadPart')
open PySem.MeetsSeq PySem.MeetsSeq2 PySem.MeetsSeq3
end
section
variable {prog:Program} {w:World} {A:Around} {E:Value→Shared→Prop} {s:Shared}
def sIx (n d:Nat):Option Int→Nat
 | none=>d
 | some v=>if v < 0 then (v + (n:Int)).toNat else min v.toNat n
end
end HT
namespace L2
open PySem PySem.Spec PyProof.Rows
abbrev TO:=St→Hp→(Option Int→Hp→Prop)→Prop
def PO (X:Cx) (e:Option Expr) (t:TO):Prop:=
 ∀ (pins:List (Addr×Obj)) (s:Shared) (σ:St) (H:Hp) (Q:Option Int→Hp→Prop),Inv X pins σ H s→t σ H Q→
  wpAny (model X.prog X.w) X.A (evalPart e X.env) (fun u s'=>∃ o H',Inv X pins σ H' s'∧IsPart u o∧Q o H') X.xe s
def BV:TO:=fun _ H Q=>Q none H
def Dk (t:TE):TO:=fun σ H Q=>t σ H fun x H1=>∃ i,x=.int i∧Q (some i) H1
section
variable {X:Cx} {e:Expr} {te:TE} {lo hi:Option Expr} {tl th:TO} {pos p2:Pos}
def SlR (X:Cx) (r:V→Option Int→Option Int→Hp→VK→Prop):Prop:=
 ∀ (pins:List (Addr×Obj)) (s:Shared) (σ:St) (H:Hp) (x:V) (v vl vu:Value) (lo hi:Option Int) (sl:Addr) (Q:VK),Inv X pins σ H s→RelV x v→s.heap.IsSliceOf sl vl vu .none→IsPart vl lo→IsPart vu hi→r x lo hi H Q→
  ∃ T id,typeLookup (.type T) "__getitem__"=pure (some (.builtin id))∧s.TypeIs v T∧wpAny (model X.prog X.w) X.A (getItem v (.ref sl)) (EP X pins σ Q) X.xe s
def tSl (r:V→Option Int→Option Int→Hp→VK→Prop) (te:TE) (tl th:TO):TE:=fun σ H Q=>te σ H fun x H1=>tl σ H1 fun l H2=>th σ H2 fun u H3=>r x l u H3 Q
def tL (xs:List V) (lo hi:Option Int):List V:=(xs.drop (HT.sIx xs.length 0 lo)).take (HT.sIx xs.length xs.length hi - HT.sIx xs.length 0 lo)
theorem nq (xs:List V) (lo hi:Option Int):(tL xs lo hi).length≤xs.length:=by
 unfold tL
 rw[List.length_take,List.length_drop]
 omega
def DY (K:PySem.W.Frag):V→Option Int→Option Int→Hp→VK→Prop:=fun x lo hi H Q=>∃ a xs,x=.ref a∧SqT K H a xs∧
 ¬ (HT.sIx xs.length 0 lo=0∧HT.sIx xs.length xs.length hi=xs.length)∧∀ p,H p=none→Q (.ref p) (upd H p (.tup (tL xs lo hi)))
def D4 (K:PySem.W.Frag):R2:=fun x y H Q=>∃ a b ns ms,x=.ref a∧y=.ref b∧SqT K H a (ns.map V.int)∧SqT K H b (ms.map V.int)∧Q (.bl (HT.lexLt ns ms)) H
def Dy (K:PySem.W.Frag):R2:=fun x y H Q=>∃ a b xs ys,x=.ref a∧y=.ref b∧SqT K H a xs∧SqT K H b ys∧xs≠[]∧xs.length + ys.length≤sizeLine∧
 (ys=[]→Q (.ref a) H)∧(ys≠[]→∀ p,H p=none→Q (.ref p) (upd H p (.tup (xs++ys))))
end
end L2
namespace L2
open PySem PySem.Spec PyProof.Rows
def ixN (n:Nat) (i:Int):Option Nat:=if 0≤i then (if i < n then some i.toNat else none) else if -(n:Int)≤i then some (i + n).toNat else none
def atI {α:Type} (xs:List α) (i:Int):Option α:=(ixN xs.length i).bind fun j=>xs[j]?
theorem pW {n:Nat} {i:Int} {j:Nat} (h:ixN n i=some j):seqIndex? i n=some j∧j < n∧-(n:Int)≤i∧i < n:=by
 unfold ixN at h
 by_cases h0:0≤i
 ·rw[if_pos h0] at h
  by_cases h1:i < n
  ·rw[if_pos h1] at h
   have e:i.toNat=j:=Option.some.inj h
   exact⟨by rw[seqIndex_of h0 h1,e],by omega,by omega,h1⟩
  ·rw[if_neg h1] at h;cases h
 ·rw[if_neg h0] at h
  by_cases h1:-(n:Int)≤i
  ·rw[if_pos h1] at h
   have e:(i + n).toNat=j:=Option.some.inj h
   exact⟨by rw[seqIndex_neg (by omega) h1,e],by omega,h1,by omega⟩
  ·rw[if_neg h1] at h;cases h
theorem my {α:Type} {xs:List α} {i:Int} {v:α} (h:atI xs i=some v):∃ j,seqIndex? i xs.length=some j∧xs[j]?=some v∧j < xs.length∧-(xs.length:Int)≤i∧i < xs.length:=by
 unfold atI at h
 cases e:ixN xs.length i with
 | none=>rw[e] at h;cases h
 | some j=>
  rw[e] at h
  obtain⟨h1,h2,h3,h4⟩:=pW e
  exact⟨j,h1,h,h2,h3,h4⟩
theorem v9 {α:Type} {xs:List α} {j:Nat} {v:α} (h:xs[j]?=some v):atI xs (j:Int)=some v:=by
 have hj:j < xs.length:=(List.getElem?_eq_some_iff.mp h).1
 have e:ixN xs.length (j:Int)=some j:=by
  unfold ixN
  rw[if_pos (by omega),if_pos (by omega)];simp
 unfold atI;rw[e];exact h
def qb (b:Expr):Prop:=∀ o i,subscripted b false o i=operate [o,i] (getItem o i)
def IxR (X:Cx) (r:R2):Prop:=
 ∀ (value slice:Expr) (pins:List (Addr×Obj)) (s:Shared) (σ:St) (H:Hp) (x y:V) (v u:Value) (Q:VK),Inv X pins σ H s→RelV x v→RelV y u→r x y H Q→
  subscripted slice false v u=operate [v,u] (getItem v u)→wpAny (model X.prog X.w) X.A (subscriptTail value slice v u) (EP X pins σ Q) X.xe s
def MtR (X:Cx) (id:String) (r:V→List V→Hp→VK→Prop):Prop:=
 ∀ (pins:List (Addr×Obj)) (s:Shared) (σ:St) (H:Hp) (x:V) (xs:List V) (v:Value) (us:List Value) (Q:VK),Inv X pins σ H s→RelV x v→Vals xs us→r x xs H Q→
  wpAny (model X.prog X.w) X.A (call (.builtin id) (v::us)) (EP X pins σ Q) X.xe s
section
variable {X:Cx} {a b:Expr} {ta tb:TE} {pos:Pos}
theorem IxR.or {r r':R2} (h:IxR X r) (h':IxR X r'):IxR X (fun x y H Q=>r x y H Q∨r' x y H Q):=by
 intro value slice pins s σ H x y v u Q I rx ry q hs
 rcases q with q | q
 ·exact h value slice pins s σ H x y v u Q I rx ry q hs
 ·exact h' value slice pins s σ H x y v u Q I rx ry q hs
theorem AB {r:R2} (hr:IxR X r) (ha:PE X a ta) (hb:PE X b tb) (hs:qb b):PE X (.Subscript a b pos) (tOp r ta tb):=by
 intro pins s σ H Q I h
 exact Subscript_ (zy ha hb I h fun v u s2 x y H2 I2 rx ry q=>hr a b pins s2 σ H2 x y v u Q I2 rx ry q (hs _ _))
def Au (K:PySem.W.Frag):R2:=fun x y H Q=>∃ p xs i v,x=.ref p∧y=.int i∧SqL K H p xs∧atI xs i=some v∧Q v H
def Ar (K:PySem.W.Frag):R2:=fun x y H Q=>∃ p xs i v,x=.ref p∧y=.int i∧SqT K H p xs∧atI xs i=some v∧Q v H
def As:R2:=fun x y H Q=>∃ z i c,x=.str z∧y=.int i∧z.length≤sizeLine∧atI z.cps.toList i=some c∧Q (.str ⟨#[c]⟩) H
theorem vD:IxR X (Au X.K):=by
 intro value slice pins s σ H x y v u Q I rx ry h hs
 obtain⟨p,xs,i,z,rfl,rfl,hq,he,q⟩:=h
 cases rx
 obtain⟨t,rfl⟩:=ry
 obtain⟨its,r,pl,hz⟩:=I.list hq
 obtain⟨j,h1,h2,h3,h4,h5⟩:=my he
 obtain⟨w,ew,rw'⟩:=r.get h2
 have hl:=r.length
 have hn:=iU
 have fin:EP X pins σ Q w s:=⟨z,H,I,rw',q⟩
 by_cases h0:0≤i
 ·have hj:i.toNat=j:=by
   rw[seqIndex_of h0 h5] at h1
   exact Option.some.inj h1
  exact item_listR pl.isList h0 (by omega) (by rw[hj];simpa using ew) fin hs
 ·have hj:(i + (its.toArray.size:Int)).toNat=j:=by
   rw[seqIndex_neg (by omega) h4] at h1
   rw[List.size_toArray,← hl]
   exact Option.some.inj h1
  exact subscriptTail_builtinR (x:=w) pl.isList.typeIs slot_list_getitem.lookup
   (wpAny_getItem_list_neg (Q:=fun r s'=>r=w∧EP X pins σ Q r s') pl.isList (by omega) (by rw[List.size_toArray] <;> omega) (by omega) (by rw[hj];simpa using ew) ⟨rfl,fin⟩) hs
theorem yL:IxR X (Ar X.K):=by
 intro value slice pins s σ H x y v u Q I rx ry h hs
 obtain⟨p,xs,i,z,rfl,rfl,hq,he,q⟩:=h
 cases rx
 obtain⟨t,rfl⟩:=ry
 obtain⟨its,r,pl,hz⟩:=I.tuple hq
 obtain⟨j,h1,h2,h3,h4,h5⟩:=my he
 obtain⟨w,ew,rw'⟩:=r.get h2
 have hl:=r.length
 have hn:=iU
 have fin:EP X pins σ Q w s:=⟨z,H,I,rw',q⟩
 exact subscriptTail_builtinR (x:=w) pl.typeIs slot_tuple_getitem.lookup
  (getItem_tuple (j:=j) (Q:=fun r s'=>r=w∧EP X pins σ Q r s') pl (by omega) (by omega) (by rw[List.size_toArray,← hl];exact h1) (by simpa using ew) ⟨rfl,fin⟩) hs
theorem yM:IxR X As:=by
 intro value slice pins s σ H x y v u Q I rx ry h hs
 obtain⟨z,i,c,rfl,rfl,hz,he,q⟩:=h
 obtain⟨t,rfl⟩:=rx
 obtain⟨t',rfl⟩:=ry
 obtain⟨j,h1,h2,h3,h4,h5⟩:=my he
 have hl:z.cps.toList.length=z.length:=by simp [Str.length]
 rw[hl] at h1 h4 h5
 have hn:=iU
 exact tail_any (typeIs_str s z t) slot_str_getitem.lookup (getItem_str (c:=c) (by
  have e1:decide (i < -(2 ^ 63:Int))=false:=decide_eq_false (by omega)
  have e2:decide (i≥2 ^ 63)=false:=decide_eq_false (by omega)
  rw[e1,e2,Bool.or_false]) (by rw[h1];simpa using h2) ⟨.str ⟨#[c]⟩,H,I.tok _,⟨_,rfl⟩,q⟩) hs
def rIx (K:PySem.W.Frag):R2:=fun x y H Q=>Au K x y H Q∨Ar K x y H Q∨As x y H Q
theorem yN:IxR X (rIx X.K):=vD.or (yL.or yM)
theorem oC (its:List Value) (n j:Nat) (u:Value):Obj.mapSeq (·.setIfInBounds j u) { cls:=.type "list",data:=.seq its.toArray n }={ cls:=.type "list",data:=.seq (its.set j u).toArray n }:=by
 simp [Obj.mapSeq]
theorem Inv.lst {pins:List (Addr×Obj)} {σ:St} {H:Hp} {s:Shared} {p:Addr} {xs:List V} (I:Inv X pins σ H s) (h:H p=some (.lst xs)) :
  ∃ (its:List Value) (n:Nat),Vals xs its∧s.heap.get? p=some { cls:=.type "list",data:=.seq its.toArray n }∧xs.length≤sizeLine:=by
 obtain⟨z,its,n,r,e⟩:=I.hok p _ h
 exact⟨its,n,r,e,z⟩
theorem Inv.yE {pins:List (Addr×Obj)} {σ:St} {H:Hp} {s:Shared} {p:Addr} {xs ys:List V} {its its':List Value} {n n':Nat} {f:Obj→Obj} (I:Inv X pins σ H s) (h:H p=some (.lst xs))
  (ho:s.heap.get? p=some { cls:=.type "list",data:=.seq its.toArray n }) (hf:f { cls:=.type "list",data:=.seq its.toArray n }={ cls:=.type "list",data:=.seq its'.toArray n' }) (r:Vals ys its') (hz:ys.length≤sizeLine) (t:Nat) :
  Inv X pins σ (upd H p (.lst ys)) { s with heap:=s.heap.update p f,toks:=t }:=by
 have e:(s.heap.update p f).get? p=some { cls:=.type "list",data:=.seq its'.toArray n' }:=by
  rw[Heap.get?_update_self f ho (by rw[hf] <;> rfl),hf]
 refine I.write (x:=p) (e:=p) (by rw[h];trivial) (.inl rfl) (fun b u hb q=>(Heap.get?_update_other _ _ (Ne.symm hb)).trans q) ⟨_,e⟩ ?_
 exact⟨hz,its',n',r,e⟩
def pI:V→V→V→Hp→(Hp→Prop)→Prop:=fun o i v H Q=>∃ p xs k j,o=.ref p∧i=.int k∧H p=some (.lst xs)∧ixN xs.length k=some j∧Q (upd H p (.lst (xs.set j v)))
theorem set_list:BR X pI:=by
 intro pins s σ H o i v ov iv u Q I ro ri rv h
 obtain⟨p,xs,k,j,rfl,rfl,hp,hj,q⟩:=h
 cases ro
 obtain⟨t,rfl⟩:=ri
 obtain⟨its,n,r,ho,hz⟩:=I.lst hp
 obtain⟨h1,h2,h3,h4⟩:=pW hj
 have hl:=r.length
 have hn:=iU
 have I':Inv X pins σ (upd H p (.lst (xs.set j v))) { s with heap:=s.heap.update p (Obj.mapSeq (·.setIfInBounds j u)) }:=
  I.yE hp ho (oC its n j u) (r.set rv j) (by rw[List.length_set];exact hz) s.toks
 by_cases h0:0≤k
 ·have hk:k.toNat=j:=by
   rw[seqIndex_of h0 h4] at h1
   exact Option.some.inj h1
  exact PySem.W.ki_setAt ho h0 (by omega) (by rw[List.size_toArray,← hl];exact h4) (by rw[hk];exact⟨_,I',q⟩)
 ·have hk:(k + (its.toArray.size:Int)).toNat=j:=by
   rw[seqIndex_neg (by omega) h3] at h1
   rw[List.size_toArray,← hl]
   exact Option.some.inj h1
  exact PySem.W.ki_setBack ho (by omega) (by rw[List.size_toArray,← hl];exact h3) (by omega) (by rw[hk];exact⟨_,I',q⟩)
theorem lF (lo hi:Option Int) (n:Nat):(sliceBounds lo hi none n).1=((HT.sIx n 0 lo:Nat):Int)∧(sliceBounds lo hi none n).2.1=((HT.sIx n n hi:Nat):Int)∧(sliceBounds lo hi none n).2.2=1:=by
 refine⟨?_,?_,rfl⟩
 ·cases lo with
  | none=>simp [sliceBounds,HT.sIx]
  | some i=>
   simp only[sliceBounds,HT.sIx,Option.getD_none,show (1:Int) > 0 by decide,if_true]
   by_cases h:i < 0
   ·simp only[h,if_true] <;> omega
   ·simp only[h,if_false] <;> omega
 ·cases hi with
  | none=>simp [sliceBounds,HT.sIx]
  | some i=>
   simp only[sliceBounds,HT.sIx,Option.getD_none,show (1:Int) > 0 by decide,if_true]
   by_cases h:i < 0
   ·simp only[h,if_true] <;> omega
   ·simp only[h,if_false] <;> omega
theorem kn (its:List Value) (lo hi:Option Int):slicePick its.toArray lo hi none=((its.drop (HT.sIx its.length 0 lo)).take (HT.sIx its.length its.length hi - HT.sIx its.length 0 lo)).toArray:=by
 obtain⟨h1,h2,h3⟩:=lF lo hi its.toArray.size
 unfold slicePick
 rw[h1,h2,h3]
 simp only[sliceRange_one,pick_run,List.size_toArray] <;> rfl
def Cn (K:PySem.W.Frag):V→Option Int→Option Int→Hp→VK→Prop:=fun x lo hi H Q=>∃ a xs,x=.ref a∧SqL K H a xs∧∀ p,H p=none→Q (.ref p) (upd H p (.lst (tL xs lo hi)))
theorem BY:SlR X (Cn X.K):=by
 intro pins s σ H x v vl vu lo hi sl Q I rx hs pl pu h
 obtain⟨a,xs,rfl,hx,q⟩:=h
 cases rx
 obtain⟨its,r,ht,hz⟩:=I.list hx
 have hlen:=r.length
 refine⟨"list",_,slot_list_getitem.lookup,ht.isList.typeIs,?_⟩
 refine wpAny_getItem_list_slice ht.isList hs pl pu .none (by simp) ?_ (by rw[List.size_toArray] <;> omega)
 rw[kn,← hlen]
 refine⟨.ref s.heap.objs.size,_,I.laid (t':=s.toks) (o:=.lst (tL xs lo hi)) (fun b ob q=>Heap.get?_push_of_some _ q) (Nat.le_refl _) ?_,rfl,q _ (I.hok.fresh (Nat.le_refl _))⟩
 exact⟨Nat.le_trans (nq xs lo hi) hz,_,0,(r.drop (HT.sIx xs.length 0 lo)).take (HT.sIx xs.length xs.length hi - HT.sIx xs.length 0 lo),Heap.get?_push_size _ rfl⟩
def w6:V→Bool
 | .non=>true
 | .bl _=>true
 | .int _=>true
 | .str _=>true
 | _=>false
def eqV:V→V→Bool
 | .non,.non=>true
 | .bl a,.bl b=>a == b
 | .bl a,.int b=>(if a then 1 else 0) == b
 | .int a,.bl b=>a == (if b then 1 else 0)
 | .int a,.int b=>a == b
 | .str a,.str b=>a == b
 | _,_=>false
def eqU (x:V) (u:Value):Bool:=match u with
 | .none=>eqV .non x
 | .bool b=>eqV (.bl b) x
 | .int i _=>eqV (.int i) x
 | .str z _=>eqV (.str z) x
 | _=>false
def inV (x:V) (xs:List V):Bool:=xs.any fun y=>eqV y x
def rIn (K:PySem.W.Frag) (neg:Bool):R2:=fun x y H Q=>∃ p xs,y=.ref p∧(SqL K H p xs∨SqT K H p xs)∧w6 x=true∧xs.all w6=true∧Q (.bl (if neg then !inV x xs else inV x xs)) H
theorem mw:bQ X (.builtin "len") (fun xs H Q=>∃ p ys,xs=[.ref p]∧(SqL X.K H p ys∨SqT X.K H p ys)∧Q (.int ys.length) H):=by
 intro pins s σ H xs us Q I r h
 obtain⟨p,ys,rfl,hq,q⟩:=h
 obtain⟨u,rfl,rx⟩:=vals1 r
 cases rx
 have hn:=iU
 rcases hq with hq | hq
 ·obtain⟨its,r',pl,hz⟩:=I.list hq
  have hlen:=r'.length
  exact Calls.call_len_list pl.isList (by simp only[List.size_toArray] <;> omega) ⟨.int ys.length,H,I.tok _,⟨s.toks + 1,by rw[List.size_toArray,hlen]⟩,q⟩
 ·obtain⟨its,r',pl,hz⟩:=I.tuple hq
  have hlen:=r'.length
  exact len_tuple pl (by simp only[List.size_toArray] <;> omega) ⟨.int ys.length,H,I.tok _,⟨s.toks + 1,by rw[List.size_toArray,hlen]⟩,q⟩
theorem mv:bQ X (.builtin "len") (fun xs H Q=>∃ z,xs=[.str z]∧z.length≤sizeLine∧Q (.int z.length) H):=by
 intro pins s σ H xs us Q I r h
 obtain⟨z,rfl,hz,q⟩:=h
 obtain⟨u,rfl,t,rfl⟩:=vals1 r
 have hn:=iU
 exact len_str (by omega) ⟨.int z.length,H,I.tok _,⟨_,rfl⟩,q⟩
theorem mr:bQ X (.type "list") (fun xs H Q=>∃ p ys,xs=[.ref p]∧(SqL X.K H p ys∨SqT X.K H p ys)∧∀ l,H l=none→Q (.ref l) (upd H l (.lst ys))):=by
 intro pins s σ H xs us Q I r h
 obtain⟨p,ys,rfl,hq,q⟩:=h
 obtain⟨u,rfl,rx⟩:=vals1 r
 cases rx
 have fin:∀ (its:List Value),Vals ys its→ys.length≤sizeLine→∀ (h':Heap) (c':Nat),(∀ b o',s.heap.get? b=some o'→h'.get? b=some o')→
   h'.get? s.heap.objs.size=some { cls:=.type "list",dict:=none,data:=.seq its.toArray c',slots:=#[] }→EP X pins σ Q (.ref s.heap.objs.size) { s with heap:=h' }:=fun its r' hz h' c' kp e=>
  ⟨.ref s.heap.objs.size,_,I.laid (t':=s.toks) kp (Nat.le_refl _) (show bN X.prog X.w _ h' _ (.lst ys) from ⟨hz,its,c',r',e⟩),rfl,q _ (I.hok.fresh (Nat.le_refl _))⟩
 rcases hq with hq | hq
 ·obtain⟨its,r',pl,hz⟩:=I.list hq
  have hlen:=r'.length
  obtain⟨o,ho,hc,n,hd⟩:=pl.isList
  exact call_list_seq p (.inl rfl) ho hc hd (fun h' c' kp e=>fin its r' hz h' c' kp e) (by simp only[List.size_toArray] <;> omega)
 ·obtain⟨its,r',pl,hz⟩:=I.tuple hq
  have hlen:=r'.length
  obtain⟨o,ho,hc,n,hd⟩:=pl
  exact call_list_seq p (.inr rfl) ho hc hd (fun h' c' kp e=>fin its r' hz h' c' kp e) (by simp only[List.size_toArray] <;> omega)
theorem ku:bQ X (.type "tuple") (fun xs H Q=>∃ p ys,xs=[.ref p]∧((SqL X.K H p ys∧∀ l,H l=none→Q (.ref l) (upd H l (.tup ys)))∨(SqT X.K H p ys∧Q (.ref p) H))):=by
 intro pins s σ H xs us Q I r h
 obtain⟨p,ys,rfl,h⟩:=h
 obtain⟨u,rfl,rx⟩:=vals1 r
 cases rx
 rcases h with ⟨hq,q⟩ | ⟨hq,q⟩
 ·obtain⟨its,r',pl,hz⟩:=I.list hq
  have hlen:=r'.length
  refine call_tuple_list pl.isList (fun h' kp=>?_) (by simp only[List.size_toArray] <;> omega)
  have I1:Inv X pins σ H { s with heap:=h' }:=I.kept (t':=s.toks) kp
  have I2:Inv X pins σ (upd H h'.objs.size (.tup ys)) { s with heap:=h'.push { cls:=.type "tuple",data:=.seq its.toArray } }:=
   I1.laid (t':=s.toks) (fun b o e=>Heap.get?_push_of_some _ e) (Nat.le_refl _) (show bN X.prog X.w _ _ _ (.tup ys) from ⟨hz,its,r',IsTup.new _ _⟩)
  exact⟨.ref h'.objs.size,_,I2,rfl,q _ (I1.hok.fresh (Nat.le_refl _))⟩
 ·obtain⟨its,r',pl,hz⟩:=I.tuple hq
  exact call_tuple_same pl ⟨.ref p,H,I,rfl,q⟩
def tyV (K:PySem.W.Frag) (T:String) (x:V) (H:Hp):Prop:=match x with
 | .str _=>T="str"
 | .int _=>T="int"
 | .ref p=>(T="list"∧∃ xs,SqL K H p xs)∨(T="tuple"∧∃ o,K.lookup p=some o∧o.cls=.type "tuple"∧o.dict=none)∨
   (T="dict"∧((∃ kvs,H p=some (.dK kvs))∨∃ kvs,H p=some (.dT kvs)))∨(T="set"∧∃ S n,H p=some (.set S n))
 | _=>False
theorem xt {pins:List (Addr×Obj)} {σ:St} {H:Hp} {s:Shared} {T:String} {x:V} {v:Value} (I:Inv X pins σ H s) (r:RelV x v) (ty:tyV X.K T x H) :
  s.TypeIs v T∧∀ a,v=.ref a→∃ ob,s.heap.get? a=some ob∧ob.dict=none:=by
 cases x with
 | str z=>
  obtain⟨t,rfl⟩:=r
  cases (show T="str" from ty)
  exact⟨typeIs_str s z t,fun _ e=>nomatch e⟩
 | int i=>
  obtain⟨t,rfl⟩:=r
  cases (show T="int" from ty)
  exact⟨typeIs_int s i t,fun _ e=>nomatch e⟩
 | ref p=>
  cases r
  rcases ty with ⟨rfl,xs,hq⟩ | ⟨rfl,o,hk,hc,hd⟩ | ⟨rfl,hk⟩ | ⟨rfl,S,n,hk⟩
  ·obtain⟨its,_,pl,_⟩:=I.list hq
   refine⟨pl.isList.typeIs,fun a e=>?_⟩
   cases e
   obtain⟨o,n,e,c,hd,_⟩:=pl
   exact⟨o,e,hd⟩
  ·refine⟨⟨o,I.kIn p o hk,hc⟩,fun a e=>?_⟩
   cases e
   exact⟨o,I.kIn _ o hk,hd⟩
  ·have z:∃ o,s.heap.get? p=some o∧o.ExactDict:=by
    rcases hk with ⟨kvs,hk⟩ | ⟨kvs,hk⟩
    ·obtain⟨_,_,_,_,o,_,_,e,ex,_⟩:=I.hok p _ hk
     exact⟨o,e,ex⟩
    ·obtain⟨_,_,_,_,o,_,_,e,ex,_⟩:=I.hok p _ hk
     exact⟨o,e,ex⟩
   obtain⟨o,e,ex⟩:=z
   refine⟨⟨o,e,ex.1⟩,fun a e2=>?_⟩
   cases e2
   exact⟨o,e,ex.2.1⟩
  ·obtain⟨o,_,_,_,e,ex,_⟩:=I.hok p _ hk
   refine⟨⟨o,e,ex.1⟩,fun a e2=>?_⟩
   cases e2
   exact⟨o,e,ex.2.1⟩
 | _=>exact False.elim ty
def DT (K:PySem.W.Frag) (T:String) (r:V→List V→Hp→VK→Prop) (to:TE):TE:=fun σ H Q=>to σ H fun x H1=>tyV K T x H1∧r x [] H1 Q
def tBM (K:PySem.W.Frag) (T:String) (r:V→List V→Hp→VK→Prop) (to:TE) (t:TA):TE:=fun σ H Q=>to σ H fun x H1=>tyV K T x H1∧t σ H1 fun xs H2=>r x xs H2 Q
variable {o e:Expr} {es:List Expr} {to:TE} {t:TA} {name:Str} {apos cpos:Pos} {T id:String} {r:V→List V→Hp→VK→Prop}
theorem pM (pa:PlainAttrs T) (slot:Slot T name id) (hty:typeOf (.builtin id)=pure (.type "method_descriptor")) (hm:MtR X id r) (ho:PE X o to) (ha:PA X (e::es) t)
  (hbase:attributeBase o name X.env (eval o X.env)=eval o X.env:=by rfl)
  (hfew:((backTo cpos (starEach (e::es) X.env)).all (fun x=>!x.1) && (backToKw cpos (keywordEach [] X.env)).all (fun x=>x.1.isSome)
   && decide ((e::es).length + ([]:List Keyword).length + (if ([]:List Keyword).isEmpty then 0 else 1) < 30))=true:=by rfl)
  (hline:(apos.endLine == cpos.line)=true:=by rfl) (hs:starEach (e::es) X.env=(false,eval e X.env)::starEach es X.env:=by rfl) (hplain:(backTo cpos (starEach es X.env)).any (·.1)=false:=by rfl) :
  PE X (.Call (.Attribute o name apos) (e::es) [] cpos) (tBM X.K T r to t):=by
 intro pins s σ H Q I h
 refine wpAny_Call_method_late hbase hfew hline rfl (thn (ho pins s σ H _ I h) fun v s1 ⟨x,H1,I1,r1,ty,q1⟩=>?_)
 obtain⟨h1,h2⟩:=xt I1 r1 ty
 refine⟨T,id,pa,slot,hty,h1,h2,?_⟩
 have hA:=ha cpos pins s1 σ H1 _ I1 q1
 rw[hs] at hA ⊢
 refine Calls.callWith_builtin (by show (false || (backTo cpos (starEach es X.env)).any (·.1))=false;rw[hplain] <;> rfl) (Calls.evalArgs_plain ?_)
 exact thn hA fun us s2 ⟨vs,H2,I2,r2,q2⟩=>hm pins s2 σ H2 x vs v us Q I2 r1 r2 q2
end
end L2
namespace L2
open PySem PySem.Spec PyProof.Rows
def MtM (X:Cx) (id:String) (r:V→List V→Hp→VK→Prop):Prop:=
 ∀ (pins:List (Addr×Obj)) (s:Shared) (σ:St) (H:Hp) (x:V) (xs:List V) (v:Value) (us:List Value) (Q:VK),Inv X pins σ H s→RelV x v→Vals xs us→r x xs H Q→
  wpAny (model X.prog X.w) X.A (call (.builtin id) (v::us)) (EP X pins σ Q) X.xe s
theorem Vals.one:∀ {x:V} {us:List Value},Vals [x] us→∃ u,us=[u]∧RelV x u
 | _,_,.cons r .nil=>⟨_,rfl,r⟩
section
variable {X:Cx} {pins:List (Addr×Obj)} {σ:St} {H:Hp} {s:Shared} {l b:Addr} {xs ys zs:List V}
theorem Inv.AR {its its':List Value} {n:Nat} {f:Array Value→Array Value} {t':Nat} (I:Inv X pins σ H s) (hH:H l=some (.lst xs))
  (e:s.heap.get? l=some { cls:=.type "list",data:=.seq its.toArray n }) (hf:f its.toArray=its'.toArray) (hv:Vals ys its') (hz:ys.length≤sizeLine) :
  Inv X pins σ (upd H l (.lst ys)) { s with heap:=s.heap.update l (Obj.mapSeq f),toks:=t' }:=by
 have q:=PySem.IsL.update e f
 rw[hf] at q
 refine I.write (x:=l) (e:=l) (by rw[hH];exact trivial) (.inl rfl) (fun b' u hb hu=>(Heap.get?_update_other s.heap (Obj.mapSeq f) (Ne.symm hb)).trans hu) ⟨_,q⟩ ?_
 exact⟨hz,its',_,hv,q⟩
theorem Inv.AS {its:List Value} {t':Nat} (I:Inv X pins σ H s) (hv:Vals ys its) (hz:ys.length≤sizeLine) :
  Inv X pins σ (upd H s.heap.objs.size (.lst ys)) { s with heap:=s.heap.push { cls:=.type "list",data:=.seq its.toArray },toks:=t' }:=
 I.laid (fun _ _ q=>Heap.get?_push_of_some _ q) (Nat.le_refl _) ⟨hz,its,0,hv,Heap.get?_push_size _ rfl⟩
theorem Inv.fresh (I:Inv X pins σ H s):H s.heap.objs.size=none:=I.hok.fresh (Nat.le_refl _)
theorem Inv.sO (I:Inv X pins σ H s) (hH:H l=some (.lst xs)):xs.length≤sizeLine∧∃ (its:List Value) (n:Nat),Vals xs its∧xs.length=its.length∧s.heap.get? l=some { cls:=.type "list",data:=.seq its.toArray n }:=by
 obtain⟨z,its,n,r,e⟩:=I.hok l _ hH
 exact⟨z,its,n,r,r.length,e⟩
theorem sG {n:Nat} (h:n≤sizeLine):Builtin.List.listTooLong n=false:=by
 unfold Builtin.List.listTooLong
 exact decide_eq_false (by omega)
end
section
variable {X:Cx}
def lO:V→List V→Hp→VK→Prop:=fun x vs H Q=>∃ l xs y,x=.ref l∧vs=[y]∧H l=some (.lst xs)∧xs.length < sizeLine∧Q .non (upd H l (.lst (xs++[y])))
theorem qC:MtM X "list.append" lO:=by
 intro pins s σ H x vs v us Q I rx rv h
 obtain⟨l,xs,y,rfl,rfl,hH,hz,q⟩:=h
 cases rx
 obtain⟨u,rfl,ru⟩:=rv.one
 obtain⟨z,its,n,r,hl,e⟩:=I.sO hH
 refine call_meets F.slot_list_append ⟨_,e,rfl⟩ F.entry_list_append (F.args_list_append_2 _ _) (PySem.list_append l its.toArray n u (by rw[List.size_toArray];omega)) ⟨e,?_⟩
 refine⟨.non,_,I.AR (its':=its++[u]) hH e (by simp) (r.append (.cons ru .nil)) ?_,rfl,q⟩
 rw[List.length_append,List.length_singleton]
 omega
def uM:V→List V→Hp→VK→Prop:=fun x vs H Q=>∃ l b xs zs,x=.ref l∧vs=[.ref b]∧H l=some (.lst xs)∧H b=some (.lst zs)∧xs.length + zs.length≤sizeLine∧Q .non (upd H l (.lst (xs++zs)))
theorem zI:MtM X "list.extend" uM:=by
 intro pins s σ H x vs v us Q I rx rv h
 obtain⟨l,b,xs,zs,rfl,rfl,hH,hB,hz,q⟩:=h
 cases rx
 obtain⟨u,rfl,ru⟩:=rv.one
 cases ru
 obtain⟨z,its,n,r,hl,e⟩:=I.sO hH
 obtain⟨z2,its2,n2,r2,hl2,e2⟩:=I.sO hB
 have hsz:its.toArray.size + its2.toArray.size≤sizeLine:=by rw[List.size_toArray,List.size_toArray];omega
 have hlong:¬ (!its.toArray.isEmpty && Builtin.List.listTooLong (its.toArray.size + its2.toArray.size))=true:=by
  rw[sG hsz,Bool.and_false]
  exact Bool.false_ne_true
 refine call_meets F.slot_list_extend ⟨_,e,rfl⟩ F.entry_list_extend (F.args_list_extend_2 _ _)
  (AutoSeq1.list_extend_list_list_0 l its.toArray n b its2.toArray n2 hlong (by rw[List.size_toArray];omega) (by omega)) ⟨e,e2,?_⟩
 refine⟨.non,_,I.AR (its':=its++its2) hH e (by simp) (r.append r2) ?_,rfl,q⟩
 rw[List.length_append]
 omega
def D2:V→List V→Hp→VK→Prop:=fun x vs H Q=>∃ l xs y,x=.ref l∧vs=[]∧H l=some (.lst xs)∧xs[xs.length - 1]?=some y∧Q y (upd H l (.lst xs.dropLast))
def Co:V→List V→Hp→VK→Prop:=fun x vs H Q=>∃ l xs i k y,x=.ref l∧vs=[.int i]∧H l=some (.lst xs)∧-(2 ^ 63)≤i∧i < 2 ^ 63∧seqIndex? i xs.length=some k∧xs[k]?=some y∧Q y (upd H l (.lst (xs.eraseIdx k)))
def Ap:V→List V→Hp→VK→Prop:=fun x vs H Q=>∃ l xs,x=.ref l∧vs=[]∧H l=some (.lst xs)∧Q .non (upd H l (.lst xs.reverse))
def Cr:V→List V→Hp→VK→Prop:=fun x vs H Q=>∃ l xs,x=.ref l∧vs=[]∧H l=some (.lst xs)∧Q .non (upd H l (.lst []))
def Av:R2:=fun x y H Q=>∃ l b xs zs,x=.ref l∧y=.ref b∧H l=some (.lst xs)∧H b=some (.lst zs)∧xs.length + zs.length≤sizeLine∧∀ p,H p=none→Q (.ref p) (upd H p (.lst (xs++zs)))
theorem yp:OpR X (binaryOp .Add) Av:=by
 intro pins s σ H x y v u Q I rx ry h
 obtain⟨l,b,xs,zs,rfl,rfl,hH,hB,hz,q⟩:=h
 cases rx
 cases ry
 obtain⟨z,its,n,r,hl,e⟩:=I.sO hH
 obtain⟨z2,its2,n2,r2,hl2,e2⟩:=I.sO hB
 refine PySem.P.add_list e e2 ?_ (by rw[List.size_toArray,List.size_toArray];omega)
 have ea:its.toArray++its2.toArray=(its++its2).toArray:=by simp
 rw[ea]
 exact⟨.ref _,_,I.AS (t':=s.toks) (r.append r2) (by rw[List.length_append];omega),rfl,q _ I.fresh⟩
def D0:R2:=fun x y H Q=>∃ l k xs,x=.ref l∧y=.int k∧H l=some (.lst xs)∧-(2 ^ 63)≤k∧k < 2 ^ 63∧xs.length * k.toNat≤sizeLine∧
 ∀ p,H p=none→Q (.ref p) (upd H p (.lst (List.replicate k.toNat xs).flatten))
end
section
variable {prog:Program} {w:World} {A:Around} {E:Value→Shared→Prop} {s:Shared}
end
section
variable {X:Cx}
end
end L2
namespace L2
open PySem PySem.Spec PyProof.Rows
section
variable {κ:Type} [DecidableEq κ]
def qg (kvs:List (κ×V)) (k:κ):Option V:=(kvs.find? fun kv=>decide (kv.1=k)).map (·.2)
def putK (kvs:List (κ×V)) (k:κ) (v:V):List (κ×V):=
 if (kvs.any fun kv=>decide (kv.1=k))=true then kvs.map (fun kv=>if kv.1=k then (kv.1,v) else kv) else kvs++[(k,v)]
def tH (kvs:List (κ×V)) (k:κ):List (κ×V):=kvs.filter fun kv=>decide (kv.1≠k)
end
abbrev KT (H:Hp):List (List Key×V)→List (List Key×Addr×Value)→Prop:=Paired fun p q=>p.1=q.1∧H q.2.1=some (.tup (p.1.map kV))∧RelV p.2 q.2.2
section
variable {P:Program} {w:World} {H:Hp} {h:Heap} {a:Addr}
theorem An {u:HO} (ok:HOk P w H h) (e:Rd H a u):bN P w H h a u:=e.ok ok
theorem Bn {kvs:List (Key×V)} (ok:HOk P w H h) (e:Rd H a (.dK kvs)):kvs.length≤sizeLine∧(a == sysModules)=false∧∃ vs,KV kvs vs∧h.DictOf (jI P w) a vs:=
 show bN P w H h a (.dK kvs) from An ok e
theorem Bp {kvs:List (Key×V)} (ok:HOk P w H h) (e:H a=some (.dK kvs)):kvs.length≤sizeLine∧(a == sysModules)=false∧∃ vs,KV kvs vs∧h.DictOf (jI P w) a vs:=Bn ok (.inl e)
end
def qT (H:Hp) (a:Addr) (y:V) (r:Option V):Prop:=
 (∃ kvs k,Rd H a (.dK kvs)∧y=kV k∧r=qg kvs k)∨∃ kvs k b,Rd H a (.dT kvs)∧y=.ref b∧H b=some (.tup (k.map kV))∧r=qg kvs k
def BU (H:Hp) (a:Addr) (y v:V) (H':Hp):Prop:=
 (∃ kvs k,H a=some (.dK kvs)∧y=kV k∧kvs.length < sizeLine∧H'=upd H a (.dK (putK kvs k v)))∨
 ∃ kvs k b,H a=some (.dT kvs)∧y=.ref b∧H b=some (.tup (k.map kV))∧kvs.length < sizeLine∧H'=upd H a (.dT (putK kvs k v))
section
variable {X:Cx} {pins:List (Addr×Obj)} {σ:St} {H:Hp} {s:Shared} {a:Addr} {y v:V} {u r:Value} {o:Option V} {A:Around} {E:Value→Shared→Prop}
theorem Inv.big (I:Inv X pins σ H s):sysModules < s.heap.objs.size:=by
 have h:mainGlobals < s.heap.objs.size:=(I.mod.glob.keeps I.bk).lt
 exact Nat.lt_trans (by decide) h
end
section
variable {X:Cx} {pins:List (Addr×Obj)} {σ:St} {H:Hp} {s:Shared} {a:Addr} {kvs:List (Key×V)} {k:Key} {u:Value} {A:Around} {E:Value→Shared→Prop}
end
def Ee (i:Expr):Prop:=∀ ov iv,subscripted i false ov iv=operate [ov,iv] (getItem ov iv)
def Dp (td ty:TE):TE:=fun σ H Q=>td σ H fun x H1=>ty σ H1 fun y H2=>∃ a v,x=.ref a∧qT H2 a y (some v)∧Q v H2
def DR (ty td:TE):TE:=fun σ H Q=>ty σ H fun y H1=>td σ H1 fun x H2=>∃ a o,x=.ref a∧qT H2 a y o∧Q (.bl o.isSome) H2
def BX (ty td:TE):TE:=fun σ H Q=>ty σ H fun y H1=>td σ H1 fun x H2=>∃ a o,x=.ref a∧qT H2 a y o∧Q (.bl (!o.isSome)) H2
def Ds (td ty tv:TE):TS:=fun D σ H=>tv σ H fun v H1=>td σ H1 fun x H2=>ty σ H2 fun y H3=>∃ a H4,x=.ref a∧BU H3 a y v H4∧D.nx σ H4
def Dv (td ty tv:TE) (rd:V→V→Hp→VK→Prop):TS:=fun D σ H=>td σ H fun x H1=>ty σ H1 fun y H2=>∃ a v,x=.ref a∧qT H2 a y (some v)∧
 tv σ H2 fun y2 H3=>rd v y2 H3 fun z H4=>∃ H5,BU H4 a y z H5∧D.nx σ H5
def Du (td ty:TE):TS:=fun D σ H=>td σ H fun x H1=>ty σ H1 fun y H2=>∃ a kvs k,x=.ref a∧H2 a=some (.dK kvs)∧y=kV k∧(qg kvs k).isSome=true∧D.nx σ (upd H2 a (.dK (tH kvs k)))
section
variable {X:Cx} {o i e value:Expr} {pos pos' tpos:Pos} {td ty tv:TE}
end
theorem tJ {P:Program} {w:World} {H:Hp} (h:Heap) (hb:sysModules < h.objs.size):bN P w H (h.push { cls:=.type "dict",data:=.dict #[] }) h.objs.size (.dK []):=
 ⟨Nat.zero_le _,beq_eq_false_iff_ne.mpr (Ne.symm (Nat.ne_of_lt hb)),[],.nil,Heap.DictOf.new h⟩
def rz:TE:=fun _ H Q=>∀ p,H p=none→Q (.ref p) (upd H p (.dK []))
def Ca:TE:=fun _ H Q=>∀ p,H p=none→Q (.ref p) (upd H p (.dT []))
section
variable {X:Cx} {pos:Pos}
theorem r9:PE X (.Dict [] [] pos) rz:=fun pins s σ H Q I h=>
 wpAny_Dict_empty ⟨.ref s.heap.objs.size,_,I.laid (a:=s.heap.objs.size) (o:=.dK []) (t':=s.toks) (fun _ _ q=>Heap.get?_push_of_some _ q) (Nat.le_refl _) (tJ s.heap I.big),rfl,h _ (I.hok.fresh (Nat.le_refl _))⟩
end
def nY:List (TE×TE)→St→Hp→(List (V×V)→Hp→Prop)→Prop
 | [],_,H,Q=>Q [] H
 | (tk,tv)::r,σ,H,Q=>tk σ H fun x H1=>tv σ H1 fun y H2=>nY r σ H2 fun ps H3=>Q ((x,y)::ps) H3
abbrev VV:List (V×V)→List (Value×Value)→Prop:=Paired fun p q=>RelV p.1 q.1∧RelV p.2 q.2
def PPs (X:Cx) (pos:Pos) (keys:List (Option Expr)) (values:List Expr) (trs:List (TE×TE)):Prop:=
 ∀ (pins:List (Addr×Obj)) (s:Shared) (σ:St) (H:Hp) (Q:List (V×V)→Hp→Prop),Inv X pins σ H s→nY trs σ H Q→
  wpAny (model X.prog X.w) X.A (evalPairs (pairTrees keys values X.env pos)) (fun vs s'=>∃ ps H',Inv X pins σ H' s'∧VV ps vs∧Q ps H') X.xe s
def yC (kvs more:List (Key×V)):List (Key×V):=more.foldl (fun acc kv=>putK acc kv.1 kv.2) kvs
def Dn (trs:List (TE×TE)):TE:=fun σ H Q=>∀ p,H p=none→nY trs σ (upd H p (.dK [])) fun ps H2=>H2 p=some (.dK [])∧∃ kvs:List (Key×V),ps=kvs.map (fun kv=>(kV kv.1,kv.2))∧kvs.length≤15∧Q (.ref p) (upd H2 p (.dK (yC [] kvs)))
structure M1 (X:Cx) (o:Expr) (m:Str) (apos:Pos) (e:Expr) (cpos:Pos):Prop where
 base:attributeBase o m X.env (eval o X.env)=eval o X.env
 few:((backTo cpos (starEach [e] X.env)).all (fun x=>!x.1) && (backToKw cpos (keywordEach [] X.env)).all (fun x=>x.1.isSome)
  && decide (([e]:List Expr).length + ([]:List Keyword).length + (if ([]:List Keyword).isEmpty then 0 else 1) < 30))=true
 line:(apos.endLine == cpos.line)=true
 trees:backTo cpos (starEach [e] X.env)=[(false,eval e X.env)]
structure M2 (X:Cx) (o:Expr) (m:Str) (apos:Pos) (e f:Expr) (cpos:Pos):Prop where
 base:attributeBase o m X.env (eval o X.env)=eval o X.env
 few:((backTo cpos (starEach [e,f] X.env)).all (fun x=>!x.1) && (backToKw cpos (keywordEach [] X.env)).all (fun x=>x.1.isSome)
  && decide (([e,f]:List Expr).length + ([]:List Keyword).length + (if ([]:List Keyword).isEmpty then 0 else 1) < 30))=true
 line:(apos.endLine == cpos.line)=true
 trees:backTo cpos (starEach [e,f] X.env)=[(false,eval e X.env),(false,eval f X.env)]
def IsD (H:Hp) (a:Addr):Prop:=(∃ kvs,Rd H a (.dK kvs))∨∃ kvs,Rd H a (.dT kvs)
section
variable {X:Cx} {pins:List (Addr×Obj)} {σ:St} {H:Hp} {s:Shared} {a:Addr} {y d:V} {u r:Value} {o:Option V} {A:Around} {E:Value→Shared→Prop}
end
def Cc (td ty:TE):TE:=fun σ H Q=>td σ H fun x H1=>∃ a,x=.ref a∧IsD H1 a∧ty σ H1 fun y H2=>∃ o,qT H2 a y o∧Q (o.getD .non) H2
def Cb (td ty tx:TE):TE:=fun σ H Q=>td σ H fun x H1=>∃ a,x=.ref a∧IsD H1 a∧ty σ H1 fun y H2=>tx σ H2 fun z H3=>∃ o,qT H3 a y o∧Q (o.getD z) H3
def B_ (td ty:TE):TE:=fun σ H Q=>td σ H fun x H1=>∃ a,x=.ref a∧IsD H1 a∧ty σ H1 fun y H2=>∃ kvs k v,H2 a=some (.dK kvs)∧y=kV k∧qg kvs k=some v∧Q v (upd H2 a (.dK (tH kvs k)))
def B9 (td ty tx:TE):TE:=fun σ H Q=>td σ H fun x H1=>∃ a,x=.ref a∧IsD H1 a∧ty σ H1 fun y H2=>tx σ H2 fun z H3=>∃ kvs k,H3 a=some (.dK kvs)∧y=kV k∧
 (∀ v,qg kvs k=some v→Q v (upd H3 a (.dK (tH kvs k))))∧(qg kvs k=none→Q z H3)
section
variable {X:Cx} {o e f:Expr} {apos cpos:Pos} {td ty tx:TE}
end
section
variable {X:Cx} {pins:List (Addr×Obj)} {σ:St} {H:Hp} {s:Shared} {a:Addr} {kvs:List (Key×V)} {A:Around} {E:Value→Shared→Prop}
end
section
variable {X:Cx} {pins:List (Addr×Obj)} {σ:St} {H:Hp} {s:Shared} {a:Addr} {y:V} {u:Value} {A:Around} {E:Value→Shared→Prop}
end
end L2
namespace Att
open PySem PySem.W PySem.Calls PyProof.Rows
theorem jy {P:Params} {h:Heap}:∀ (ns:List Int) (vs:List Value),WellAll P h vs (ns.map WData.int)→IntsAre vs ns:=by
 intro ns
 induction ns with
 | nil=>
  intro vs w
  rw[List.map_nil] at w
  cases w
  exact .nil
 | cons n ns ih=>
  intro vs w
  rw[List.map_cons] at w
  cases w with
  | cons a b=>
   cases a
   exact .cons _ _ (ih _ b)
theorem qq {l:OpenLaw} {n:Nat} (hn:l.most=some n) {P:Params} {h:Heap} {args:List WData} {vals:List Value}
  (hpre:l.row.toRowW.claim.pre args=true) (hwl:WellAll P h vals args) :
  ∃ a vs ns,vals=[Value.ref a]∧args=[WData.list (ns.map WData.int)]∧h.get? a=some { cls:=.type "list",data:=.seq vs.toArray }∧IntsAre vs ns∧ns.length≤n:=by
 have hsh:WShape.hasAll [] args [.list .int]=true:=(pre_splitW hpre).1
 have hc:l.pre.holds [] { args:=args }=true:=(pre_splitW hpre).2
 obtain⟨d,r,rfl,h1,h2⟩:=hasAllW_cons hsh
 obtain rfl:=hasAllW_nil h2
 obtain⟨xs,rfl,h3⟩:=hasW_list h1
 obtain⟨ns,rfl⟩:=items_int h3
 have hlen:ns.length≤n:=by
  unfold OpenLaw.pre at hc
  have h4:(WTm.not (.lt (.lit (.int (n:Int))) (.len (.arg 0)))).holds [] { args:=[.list (ns.map .int)] }=true:=by
   have h4:=(holds_andW hc).1
   rw[hn] at h4
   exact h4
  have h5:=condW_of h4 (w_not (w_lt w_lit (w_len_list (w_arg rfl))))
  rw[List.length_map] at h5
  refine Nat.le_of_not_lt fun q=>?_
  have q':(n:Int) < ((ns.length:Nat):Int):=by omega
  first
   | (rw[decide_eq_true q'] at h5;exact absurd h5 (by decide))
   | (simp at h5;omega)
 cases hwl with
 | cons w1 w2=>
  cases w2
  cases w1 with
  | list ho hall=>exact⟨_,_,ns,rfl,rfl,ho,jy ns _ hall,hlen⟩
theorem qw (l:OpenLaw) (args:List WData):l.row.toRowW.claim.post args (.bool true) args=true:=
 postW_of (r:=l.row.toRowW) (X:=(true == true))
  (show WShape.has [] (.bool true) .bool=true by first | rfl | decide | simp [WShape.has,WShape.arms,WShape.armsAll])
  (show (WTm.eq .res (.lit (.bool true))).value [] { args:=args,res:=some (.bool true),after:=args }=some (.bool (true == true)) from w_eq_bool (w_res rfl) w_lit) rfl
theorem nI {l:OpenLaw} {n:Nat} {q:Program} {loose:List Str} {XP:(Str→Option Value)→Heap→Prop} {YP:World→Heap→Prop} {d:DefRec}
  (hn:l.most=some n) (hdf:d.params.defaults=[])
  (call:∀ (w:World) (s₀ s₁:Shared) (mg mb:Str→Option Value) (fa:Addr) (o:Obj) (pm cd doc:Value) (a:Addr) (vs:List Value) (ns:List Int),
   Ground q loose [] XP w s₀ mg mb s₁.heap→YP w s₁.heap→
   s₁.heap.get? fa=some o→o.data=.func (docDef d.name d.params d.body d.scope pm cd doc)→s₁.heap.CodeRec cd d.name→mg d.name=some (.ref fa)→
   s₁.heap.get? a=some { cls:=.type "list",data:=.seq vs.toArray }→IntsAre vs ns→ns.length≤n→s₁.gens=#[]→
   codeAny (model l.prog w) callerA (.call (.ref fa) ⟨[.ref a],[]⟩) (fun r s'=>r=.ok (.ret (.bool true))∧OldK s₁.heap s'.heap∧s'.os=s₁.os∧AllBare s'.gens) s₁) :
  WalkO q loose XP YP l.row.toRowW d [] (fun f vs=>PySem.call f vs):=by
 intro w s₀ s₁ mg mb G Y fa o pm cd doc dV kV ho hd hcd hD hmg hg args vals as hpre hlay hrd hwl hlo
 obtain rfl:dV=.none:=Dflts.none hD hdf
 obtain rfl:kV=.none:=Dflts.noKw hD
 obtain⟨a,vs,ns,rfl,rfl,hobj,hints,hlen⟩:=qq hn hpre hwl
 refine enter_call (codeAny_mono (call w s₀ s₁ mg mb fa o pm cd doc a vs ns G Y ho (fd_plain hd) hcd hmg hobj hints hlen hg) fun r s' hq=>?_)
 obtain⟨rfl,h2,h3,h4⟩:=hq
 exact⟨.inl ⟨.bool true,.bool true,[],rfl,fun _=>rfl,.bool true,qw l _,fun _=>⟨List.Pairwise.nil,fun _ hm=>(nomatch hm)⟩⟩,h2,h3,h4⟩
section
variable {prog:Program} {w:World} {A:Around} {E:Value→Shared→Prop} {s:Shared} {K:Frag}
def CA (h:Heap):Heap:={ h with objs:=#[] }
def ledger (h:Heap) (L d:Addr):List (Addr×Obj):=(List.range h.objs.size).filterMap fun a=>if a=L∨a=d then none else (h.get? a).map fun o=>(a,o)
end
end Att
namespace L2
open PySem PySem.Spec PyProof.Rows
theorem kD:∀ {vs:List Value} {ns:List Int},IntsAre vs ns→Vals (ns.map V.int) vs
 | _,_,.nil=>.nil
 | _,_,.cons n t h=>.cons ⟨t,rfl⟩ (kD h)
def zF (H:Hp):Prop:=∀ b,H b=none∨∃ o xs,H b=some (.frz o (.lst xs))
theorem sV {P:Program} {w:World} {K:PySem.W.Frag} {mg mb:Str→Option Value} {CX:CXT} {k:Nat} {fa a:Addr} {fd:FuncData} {x:Str} {sp:Sp} {s₁:Shared} {vs:List Value} {ns:List Int}
  (KX:K.In s₁.heap) (hns:s₁.heap.Ns mainGlobals mg) (hb:s₁.heap.Ns builtinsNs mb) (hbb:∀ x:Str,x≠"__name__"→mb x=bootBuiltins x) (hlim:s₁.heap.NoLimit) (hg:s₁.gens=#[])
  (ha:s₁.heap.get? a=some { cls:=.type "list",data:=.seq vs.toArray }) (hi:IntsAre vs ns) (hl:ns.length≤sizeLine) (hr:bP k callerA)
  (F:∀ base:Heap,K.In base→base.Ns mainGlobals mg→aX P w K mg base CX k fa fd [x] sp) (hbind:∀ (s:Shared) (u:Value),BindsTo s fd ⟨[u],[]⟩ [(x,u)])
  (hsp:∀ H:Hp,zF H→SqL K H a (ns.map V.int)→sp [.ref a] H (fun v _=>v=.bl true) fun _ _ _=>False)
  (hCX:∀ H e s',CX [] H s₁ (fun _ _ _=>False) e s'→False) :
  codeAny (model P w) callerA (.call (.ref fa) ⟨[.ref a],[]⟩) (fun r s'=>r=.ok (.ret (.bool true))∧OldK s₁.heap s'.heap∧s'.os=s₁.os∧AllBare s'.gens) s₁:=by
 have rv:=kD hi
 have lenV:=hi.length
 have core:∀ H:Hp,zF H→SqL K H a (ns.map V.int)→HOk P w H s₁.heap→(∀ b,H b≠none→b=a)→(H a≠none→K.lookup a=none)→
   codeAny (model P w) callerA (.call (.ref fa) ⟨[.ref a],[]⟩) (fun r s'=>r=.ok (.ret (.bool true))∧OldK s₁.heap s'.heap∧s'.os=s₁.os∧AllBare s'.gens) s₁:=by
  intro H hO hS hok hA hK
  have base_of:∀ {b:Addr} {o:Obj},s₁.heap.get? b=some o→H b=none→(lZ s₁.heap H).get? b=some o:=fun e n=>tm e n
  have noA:∀ {b:Addr} {o:Obj} {es:Array DictEntry} {ep:Nat},s₁.heap.get? b=some o→o.data=.dict es ep→H b=none:=fun {b o es ep} e d=>by
   cases q:H b with
   | none=>rfl
   | some u=>
    have e':b=a:=hA b (by rw[q];simp)
    subst e'
    rw[ha] at e;cases e
    have d':Data.seq vs.toArray _=Data.dict es ep:=d
    cases d'
  have nsK:∀ {b:Addr} {m:Str→Option Value},s₁.heap.Ns b m→(lZ s₁.heap H).Ns b m:=fun {b m} ⟨o,es,ep,e,d,r⟩=>⟨o,es,ep,base_of e (noA e d),d,r⟩
  have hKb:K.In (lZ s₁.heap H):=fun b o e=>base_of (KX b o e) (by
   cases q:H b with
   | none=>rfl
   | some u=>
    have e':b=a:=hA b (by rw[q];simp)
    subst e'
    rw[hK (by rw[q];simp)] at e;cases e)
  have hM:Mod K mg (lZ s₁.heap H):=⟨hKb,nsK hns,⟨mb,nsK hb,hbb⟩,let ⟨mc,h1,h2⟩:=hlim;⟨mc,nsK h1,h2⟩⟩
  have e0:pd P w K mg (lZ s₁.heap H) callerA [] s₁ H:=⟨rfl,hM,fun b o e=>vo e,Nat.le_of_eq (qI _ _),trivial,fun b hb=>absurd (show b∈([]:List Addr) from hb) (by simp),hok,.of_eq hg⟩
  refine codeAny_mono ((F _ hKb (nsK hns)).run callerA [] s₁ H ⟨[.ref a],[]⟩ [.ref a] [.ref a] _ _ hr e0 (hbind s₁ (.ref a)) (.cons rfl .nil) (hsp H hO hS)) fun r s' h=>?_
  cases r with
  | error e=>exact(hCX H e s' h).elim
  | ok fl=>
   cases fl with
   | next=>exact False.elim h
   | brk=>exact False.elim h
   | cont=>exact False.elim h
   | ret u=>
    obtain⟨v,H',os,bare,un,hok',r',q⟩:=h
    have q':v=.bl true:=q
    subst q'
    obtain rfl:u=Value.bool true:=r'
    refine⟨rfl,OldK.of_keep fun b o e=>?_,os,bare⟩
    cases q:H b with
    | none=>exact un.keep b o e q (by intro z;exact absurd (show b∈([]:List Addr) from z) (by simp)) (by simp)
    | some u=>
     rcases hO b with z | ⟨ob,xs,z⟩
     ·rw[q] at z;cases z
     ·have z2:=un.frzs b ob _ z
      obtain⟨e1,_⟩:=hok b _ z
      obtain⟨e2,_⟩:=hok' b _ z2
      rw[e] at e1;cases e1
      exact e2
 cases hk:K.lookup a with
 | some o=>
  have e:=KX a o hk
  rw[ha] at e
  cases e
  refine core (fun _=>none) (fun _=>.inl rfl) (.inr ⟨_,vs.toArray,_,hk,rfl,rfl,rfl,by rw[List.size_toArray,lenV];exact hl,by simpa using rv⟩) (fun b u z=>by have z':(none:Option HO)=some u:=z;cases z') (fun b z=>absurd rfl z) fun z=>absurd rfl z
 | none=>
  refine core (fun b=>if b=a then some (.frz { cls:=.type "list",data:=.seq vs.toArray } (.lst (ns.map V.int))) else none) (fun b=>?_) (.inl (.inr ⟨{ cls:=.type "list",data:=.seq vs.toArray },if_pos rfl⟩)) (fun b u z=>?_) (fun b z=>?_) fun _=>hk
  ·by_cases hb:b=a
   ·exact .inr ⟨_,_,if_pos hb⟩
   ·exact .inl (if_neg hb)
  ·by_cases hb:b=a
   ·have z':=(if_pos hb).symm.trans z
    cases z'
    subst hb
    exact⟨ha,by rw[List.length_map];exact hl,vs,_,rv,ha⟩
   ·have z':=(if_neg hb).symm.trans z
    cases z'
  ·by_cases hb:b=a
   ·exact hb
   ·exact absurd (if_neg hb) z
end L2
namespace L2
open PySem PySem.Spec PyProof.Rows
abbrev KOf {K:PySem.W.Frag} {h:Heap} (_:K.In h):PySem.W.Frag:=K
theorem uj {l:PySem.W.OpenLaw} {n k:Nat} {q:Program} {loose:List Str} {XP:(Str→Option Value)→Heap→Prop} {YP:World→Heap→Prop} {d:DefRec} {K:Params→PySem.W.Frag} {CX:World→CXT} {sp:World→Sp} {x:Str}
  (hn:l.most=some n) (hn2:n≤sizeLine) (hdf:d.params.defaults=[]) (hr:bP k callerA)
  (hY:∀ (w:World) (h:Heap),YP w h→(K w.params).In h)
  (F:∀ (w:World) (mg:Str→Option Value) (fa:Addr) (h:Heap),(K w.params).In h→h.Ns mainGlobals mg→mg d.name=some (.ref fa)→
   ∃ fd:FuncData,(∀ (s:Shared) (u:Value),BindsTo s fd ⟨[u],[]⟩ [(x,u)])∧
    ∀ base:Heap,(K w.params).In base→base.Ns mainGlobals mg→aX l.prog w (K w.params) mg base (CX w) k fa fd [x] (sp w))
  (hsp:∀ (w:World) (H:Hp) (a:Addr) (ns:List Int),ns.length≤n→zF H→SqL (K w.params) H a (ns.map V.int)→sp w [.ref a] H (fun v _=>v=.bl true) fun _ _ _=>False)
  (hCX:∀ (w:World) (H:Hp) (s:Shared) (e:Value) (s':Shared),CX w [] H s (fun _ _ _=>False) e s'→False) :
  PySem.W.WalkO q loose XP YP l.row.toRowW d [] (fun f vs=>PySem.call f vs):=by
 refine Att.nI hn hdf fun w s₀ s₁ mg mb fa o pm cd doc a vs ns G Y ho hd hcd hmg hobj hints hlen hg=>?_
 have KX:=hY w _ Y
 obtain⟨fd,hb,hF⟩:=F w mg fa _ KX G.T.g hmg
 exact sV KX G.T.g G.T.b G.T.builtins G.T.nolimit hg hobj hints (Nat.le_trans hlen hn2) hr hF hb (fun H hO hS=>hsp w H a ns hlen hO hS) fun H e s'=>hCX w H s₁ e s'
end L2
namespace L2
open PySem PySem.Spec PyProof.Rows
def inClass (s:Stmt) (j:Nat):Stmt:=match s with
 | .ClassDef _ _ _ body _ _ _ _ _ _ _=>body.getD j (.Pass ⟨0,0,0,0⟩)
 | _=>.Pass ⟨0,0,0,0⟩
def ao (s:Stmt):Arguments:=match s with
 | .FunctionDef _ a _ _ _ _ _ _ _ _=>a
 | _=>{ posonlyargs:=[],args:=[],vararg:=none,kwonlyargs:=[],kw_defaults:=[],kwarg:=none,defaults:=[] }
def aj (s:Stmt):List Stmt:=match s with
 | .FunctionDef _ _ b _ _ _ _ _ _ _=>b
 | _=>[]
def ab (s:Stmt):Scope:=match s with
 | .FunctionDef _ _ _ _ _ _ sc _ _ _=>sc
 | _=>{ kind:=.function,names:=[],isGenerator:=false,isCoroutine:=false }
abbrev CX0:CXT:=fun _ _ _ _ _ _=>False
abbrev E0:XK:=fun _ _ _=>False
theorem kM {X:Cx}:Passes CX0 X E0:=fun _ _ _ _ _ _ _ h=>h.elim
structure Fun (K:PySem.W.Frag) (x qual:Str) (st:Stmt) (f:Addr) (fd:FuncData):Prop where
 ex:∃ (oc:Value) (od:Option Addr) (kV doc pm:Value) (an:Option Addr) (cdv ct:Value) (osl:Array (Option Value)),
  fd=PySem.W.fnOf x qual (ao st) (aj st) (ab st) .none kV doc pm an cdv ct∧K.lookup f=some ⟨oc,od,.func fd,osl⟩∧PySem.W.codeIn K cdv qual=true
 kp:PySem.W.keepIn K (.ref f)=true
section
variable {P:Program} {w:World} {K:PySem.W.Frag} {mg:Str→Option Value} {base:Heap}
theorem Fun.ok {x qual:Str} {st:Stmt} {f:Addr} {fd:FuncData} {N ps:List Str} {k:Nat} {sp:Sp} (F:Fun K x qual st f fd) (S:aJ N ps (ab st)) (len:∀ vs H Q E,sp vs H Q E→vs.length=ps.length)
  (hbody:∀ (cdv:Value) (A:Around) (outer:List Env) (s:Shared) (H:Hp) (vs:List V) (Q:VK) (E:XK),bP k (A.deeper (envOfC qual (ab st) s.heap.objs.size f cdv))→sp vs H Q E→
   ∃ t,PSs (i5 CX0 P w K mg base N qual (ab st) f cdv A outer s H E).nox (aj st) t∧t { nx:=fun _ H'=>Q .non H',rt:=Q } (start N vs) H):aX P w K mg base CX0 (k + 1) f fd ps sp:=by
 obtain⟨oc,od,kV,doc,pm,an,cdv,ct,osl,rfl,lk,hcd⟩:=F.ex
 refine w5 lk hcd S len fun A outer s H vs Q E hr hsp=>?_
 obtain⟨t,h,q⟩:=hbody cdv A outer s H vs Q E hr hsp
 exact⟨t,h.nox,q⟩
theorem Fun.binds {x qual:Str} {st:Stmt} {f:Addr} {fd:FuncData} {ps:List Str} (F:Fun K x qual st f fd)
  (h:∀ (kV doc pm:Value) (an:Option Addr) (cdv ct:Value) (us:List Value),us.length=ps.length→bindArgs (PySem.W.fnOf x qual (ao st) (aj st) (ab st) .none kV doc pm an cdv ct) ⟨us,[]⟩=pure (ps.zip us)):Binds K fd ps []:=by
 obtain⟨oc,od,kV,doc,pm,an,cdv,ct,osl,rfl,lk,hcd⟩:=F.ex
 exact .all (h kV doc pm an cdv ct)
theorem ay {x qual:Str} {st:Stmt} {f:Addr} {oc:Value} {od an:Option Addr} {osl:Array (Option Value)} {kV doc pm cdv ct:Value} (l:K.lookup f=some ⟨oc,od,.func (PySem.W.fnOf x qual (ao st) (aj st) (ab st) .none kV doc pm an cdv ct),osl⟩)
  (c:PySem.W.codeIn K cdv qual=true) (k:PySem.W.keepIn K (.ref f)=true):Fun K x qual st f (PySem.W.fnOf x qual (ao st) (aj st) (ab st) .none kV doc pm an cdv ct):=⟨⟨oc,od,kV,doc,pm,an,cdv,ct,osl,rfl,l,c⟩,k⟩
end
section
variable {X:Cx}
end
theorem vH {A B:Prop} (h:B):if false=true then A else B:=by
 rw[if_neg Bool.false_ne_true]
 exact h
theorem vG {A B:Prop} (h:A):if true=true then A else B:=by
 rw[if_pos rfl]
 exact h
def aC (H H':Hp):Prop:=∀ b o,H b=some o→H' b=some o
theorem aC.refl (H:Hp):aC H H:=fun _ _ h=>h
theorem aC.trans {H H1 H2:Hp} (a:aC H H1) (b:aC H1 H2):aC H H2:=fun c o h=>b c o (a c o h)
theorem aC.seq {K:PySem.W.Frag} {H H':Hp} {a:Addr} {xs:List V} (e:aC H H') (h:SqL K H a xs):SqL K H' a xs:=by
 rcases h with (h | ⟨o,h⟩) | h
 ·exact .inl (.inl (e _ _ h))
 ·exact .inl (.inr ⟨o,e _ _ h⟩)
 ·exact .inr h
section
variable {κ:Type} [DecidableEq κ]
end
end L2
namespace L2
open PySem PySem.Spec PyProof.Rows
def takes (cells:List (Str×Addr)):List (Str×NameKind)→List (Str×Addr)→List (Str×Addr)
 | [],acc=>acc
 | (n,k)::r,acc=>takes cells r (if k=NameKind.free then (n,(cells.lookup n).getD 0)::acc else acc)
theorem kr {sc:Scope} {env:Env} (h:∀ y∈sc.names,y.2=.free→∃ c,env.cells.lookup y.1=some c):closureFor sc env=pure (takes env.cells sc.names []):=by
 have go:∀ (l:List (Str×NameKind)) (acc:List (Str×Addr)),(∀ y∈l,y.2=.free→∃ c,env.cells.lookup y.1=some c)→
   (forIn l acc (fun (x:Str×NameKind) (cs:List (Str×Addr))=>match x with
    | (name,kind)=>if (kind == NameKind.free)=true then do let c ← cellOf env name;pure (ForInStep.yield ((name,c)::cs)) else pure (ForInStep.yield cs)):Sem (List (Str×Addr)))=pure (takes env.cells l acc):=by
  intro l
  induction l with
  | nil=>intro acc _;rfl
  | cons x l ih=>
   intro acc hl
   obtain⟨n,k⟩:=x
   rw[List.forIn_cons]
   by_cases hk:k=NameKind.free
   ·subst hk
    obtain⟨c,hc⟩:=hl (n,.free) List.mem_cons_self rfl
    have hc':env.cells.lookup n=some c:=hc
    have e1:cellOf env n=pure c:=by unfold cellOf;rw[hc']
    have e2:takes env.cells ((n,NameKind.free)::l) acc=takes env.cells l ((n,c)::acc):=by
     show takes env.cells l (if NameKind.free=NameKind.free then (n,(env.cells.lookup n).getD 0)::acc else acc)=_
     rw[if_pos rfl,hc']
     rfl
    rw[e2,← ih ((n,c)::acc) fun y hy=>hl y (List.mem_cons_of_mem _ hy)]
    show ((if (NameKind.free == NameKind.free)=true then (do let c ← cellOf env n;pure (ForInStep.yield ((n,c)::acc))) else pure (ForInStep.yield acc)) >>= _)=_
    rw[if_pos (by decide),e1,pure_bind,pure_bind]
   ·have e2:takes env.cells ((n,k)::l) acc=takes env.cells l acc:=by
     show takes env.cells l (if k=NameKind.free then _ else acc)=_
     rw[if_neg hk]
    have hb:(k == NameKind.free)=false:=by simpa using hk
    rw[e2,← ih acc fun y hy=>hl y (List.mem_cons_of_mem _ hy)]
    show ((if (k == NameKind.free)=true then _ else pure (ForInStep.yield acc)) >>= _)=_
    rw[hb,if_neg Bool.false_ne_true,pure_bind]
 have:=go sc.names [] h
 unfold closureFor
 first
  | exact(congrArg (fun z=>z >>= fun cs=>pure cs) this).trans (pure_bind _ _)
  | exact this
  | simpa using this
theorem kE {cells:List (Str×Addr)} {n:Str} {c:Addr}:∀ (names:List (Str×NameKind)) (acc:List (Str×Addr)),(takes cells names acc).lookup n=some c→
  acc.lookup n=some c∨((n,NameKind.free)∈names∧c=(cells.lookup n).getD 0)
 | [],_,h=>.inl h
 | (m,k)::r,acc,h=>by
  rcases kE r _ h with q | ⟨q1,q2⟩
  ·by_cases hk:k=NameKind.free
   ·rw[if_pos hk] at q
    subst hk
    by_cases e:n=m
    ·subst e
     rw[List.lookup_cons,beq_self_eq_true] at q
     exact .inr ⟨List.mem_cons_self,(Option.some.inj q).symm⟩
    ·have:(n == m)=false:=by simpa using e
     rw[List.lookup_cons,this] at q
     exact .inl q
   ·rw[if_neg hk] at q
    exact .inl q
  ·exact .inr ⟨List.mem_cons_of_mem _ q1,q2⟩
theorem kF {cells:List (Str×Addr)} {n:Str}:∀ (names:List (Str×NameKind)) (acc:List (Str×Addr)),(acc.lookup n).isSome=true→((takes cells names acc).lookup n).isSome=true
 | [],_,h=>h
 | (m,k)::r,acc,h=>by
  refine kF r _ ?_
  by_cases hk:k=NameKind.free
  ·rw[if_pos hk]
   cases e:n == m with
   | true=>rw[List.lookup_cons,e];rfl
   | false=>rw[List.lookup_cons,e];exact h
  ·rw[if_neg hk];exact h
theorem iN {cells:List (Str×Addr)} {n:Str}:∀ (names:List (Str×NameKind)) (acc:List (Str×Addr)),(n,NameKind.free)∈names→((takes cells names acc).lookup n).isSome=true
 | [],_,h=>by simp at h
 | (m,k)::r,acc,h=>by
  rcases List.mem_cons.mp h with e | h
  ·cases e
   refine kF r _ ?_
   rw[if_pos rfl,List.lookup_cons,beq_self_eq_true]
   rfl
  ·exact iN r _ h
structure Blk (N:List Str) (osc sc:Scope) (Nc:List Str) (fr:List (Option Nat)):Prop where
 kind:sc.kind=.function
 nocell:∀ y∈sc.names,y.2≠.cell
 free:∀ y∈sc.names,y.2=.free→osc.names.lookup y.1=some .cell∨osc.names.lookup y.1=some .free
 locs:∀ y∈sc.names,y.2=.local→sc.names.lookup y.1=some .local
 nd:Nc.Nodup
 len:Nc.length=fr.length
 whence:∀ p∈Nc.zip fr,(p.2.all fun j=>decide (N[j]?=some p.1) && decide (sc.names.lookup p.1=some .free))=true
abbrev cm (X:Cx) (sc:Scope) (Nc:List Str) (s₀:Shared) (H₀:Hp) (C:Addr) (ex:List Addr) (pn:List (Addr×Obj)):Cx where
 prog:=X.prog
 w:=X.w
 K:=X.K
 mg:=X.mg
 base:=X.base
 A:=X.A
 N:=Nc
 s₀:=s₀
 H₀:=H₀
 env:=compEnvC sc (takes X.env.cells sc.names []) C X.env
 outer:=X.stack
 stack:=X.stack
 ex:=ex
 fn:=fun _=>false
 calm:=X.calm
 pn:=pn
 xe:=fun _ _=>False
def jl (fr:List (Option Nat)) (σ:St):St:=fr.map fun o=>o.bind fun j=>(σ[j]?).join
def xl (J:It) (g:TG) (te:TE) (σ0:St) (H1:Hp) (Q:VK):Prop:=
 ∃ W:Nat→Nat→List V→St→Hp→Prop,(∃ m,W 0 m [] σ0 H1)∧∀ i m ys σc H,W i m ys σc H→ys.length < sizeLine∧
  ((J.stop i H∧∀ l,H l=none→Q (.ref l) (upd H l (.lst ys)))∨
   (J.go i H∧∀ x H',J.yld i H x H'→g x σc H' fun σ2 H2=>∃ N:VK,(∀ y H3,N y H3→∃ m',m' < m∧W (i + 1) m' (ys++[y]) σ2 H3)∧te σ2 H2 N))
def mE (fr:List (Option Nat)) (wi:TI) (g:TG) (te:TE):TE:=fun σ H Q=>wi σ H fun J H1=>xl J g te (jl fr σ) H1 Q
theorem fj {sc:Scope} {env:Env} {x:Str} {k:NameKind} (h:(relabel sc env).names.lookup x=some k):sc.names.lookup x=some k∨(k=.cell∧sc.names.lookup x=some .free):=by
 have go:∀ l:List (Str×NameKind),(l.map fun (n,k)=>if (k == NameKind.free && env.scope.kind == .function && env.kindOf n == some .cell) then (n,NameKind.cell) else (n,k)).lookup x=some k→l.lookup x=some k∨(k=.cell∧l.lookup x=some .free):=by
  intro l
  induction l with
  | nil=>intro h;simp at h
  | cons p r ih=>
   intro h
   obtain⟨n,k'⟩:=p
   rw[List.map_cons] at h
   by_cases hc:(k' == NameKind.free && env.scope.kind == .function && env.kindOf n == some .cell)=true
   ·have h2:List.lookup x ((n,NameKind.cell)::r.map fun (n,k)=>if (k == NameKind.free && env.scope.kind == .function && env.kindOf n == some .cell) then (n,NameKind.cell) else (n,k))=some k:=by
     have h3:=h
     simp only[hc,if_true] at h3
     exact h3
    have hk:k'=.free:=by
     simp only[Bool.and_eq_true] at hc
     simpa using hc.1.1
    subst hk
    cases hx:x == n with
    | true=>
     rw[List.lookup_cons,hx] at h2
     rw[List.lookup_cons,hx]
     cases h2
     exact .inr ⟨rfl,rfl⟩
    | false=>
     rw[List.lookup_cons,hx] at h2
     rw[List.lookup_cons,hx]
     exact ih h2
   ·have hc':(k' == NameKind.free && env.scope.kind == .function && env.kindOf n == some .cell)=false:=by simpa using hc
    have h2:List.lookup x ((n,k')::r.map fun (n,k)=>if (k == NameKind.free && env.scope.kind == .function && env.kindOf n == some .cell) then (n,NameKind.cell) else (n,k))=some k:=by
     have h3:=h
     simp only[hc',Bool.false_eq_true,if_false] at h3
     exact h3
    cases hx:x == n with
    | true=>
     rw[List.lookup_cons,hx] at h2
     rw[List.lookup_cons,hx]
     exact .inl h2
    | false=>
     rw[List.lookup_cons,hx] at h2
     rw[List.lookup_cons,hx]
     exact ih h2
 exact go _ h
theorem lN {sc:Scope} {env:Env} {x:Str} (h:sc.names.lookup x=some .free):(relabel sc env).names.lookup x=some .cell∨(relabel sc env).names.lookup x=some .free:=by
 have go:∀ l:List (Str×NameKind),l.lookup x=some .free→(l.map fun (n,k)=>if (k == NameKind.free && env.scope.kind == .function && env.kindOf n == some .cell) then (n,NameKind.cell) else (n,k)).lookup x=some .cell∨(l.map fun (n,k)=>if (k == NameKind.free && env.scope.kind == .function && env.kindOf n == some .cell) then (n,NameKind.cell) else (n,k)).lookup x=some .free:=by
  intro l
  induction l with
  | nil=>intro h;simp at h
  | cons p r ih=>
   intro h
   obtain⟨n,k'⟩:=p
   rw[List.map_cons]
   by_cases hc:(k' == NameKind.free && env.scope.kind == .function && env.kindOf n == some .cell)=true
   ·simp only[hc,if_true]
    cases hx:x == n with
    | true=>left;simp [List.lookup_cons,hx]
    | false=>
     rw[List.lookup_cons,hx] at h
     simp only[List.lookup_cons,hx]
     exact ih h
   ·have hc':(k' == NameKind.free && env.scope.kind == .function && env.kindOf n == some .cell)=false:=by simpa using hc
    simp only[hc',Bool.false_eq_true,if_false]
    cases hx:x == n with
    | true=>
     rw[List.lookup_cons,hx] at h
     right
     simp only[List.lookup_cons,hx]
     exact h
    | false=>
     rw[List.lookup_cons,hx] at h
     simp only[List.lookup_cons,hx]
     exact ih h
 exact go _ h
section
variable {X:Cx} {pins:List (Addr×Obj)} {σ:St}
theorem cV {sc:Scope} {Nc:List Str} {fr:List (Option Nat)} (B:Blk X.N X.env.scope sc Nc fr) (ok:X.Ok) {n:Str} {c:Addr} (h:(takes X.env.cells sc.names []).lookup n=some c):X.env.cells.lookup n=some c:=by
 rcases kE _ _ h with q | ⟨q1,q2⟩
 ·simp at q
 ·obtain⟨c',hc'⟩:=ok.has n (B.free _ q1 rfl)
  rw[hc'] at q2
  rw[hc',q2]
  rfl
theorem cv {n:Str} {k:NameKind}:∀ {l:List (Str×NameKind)},l.lookup n=some k→(n,k)∈l:=fun h=>PySem.mem_of_lookup h
theorem zx {sc:Scope} {Nc:List Str} {fr:List (Option Nat)} (B:Blk X.N X.env.scope sc Nc fr) {s₀:Shared} {H₀:Hp} {C:Addr} {ex:List Addr} {pn:List (Addr×Obj)} (I:Inv X pins σ H₀ s₀) (hC:s₀.heap.objs.size≤C)
  (hex:∀ b∈ex,b < s₀.heap.objs.size∧b∉X.fs∧b≠X.env.locals∧(∀ x c,X.env.cells.lookup x=some c→c≠b)∧∀ o,X.base.get? b≠some o):(cm X sc Nc s₀ H₀ C ex pn).Ok where
 mod:=I.ok.mod
 kind:=B.kind
 glob:=I.ok.glob
 blt:=I.ok.blt
 above:=hC
 inj:=fun x y c h1 h2=>I.ok.inj x y c (cV B I.ok h1) (cV B I.ok h2)
 has:=fun x hx=>by
  have hf:sc.names.lookup x=some .free:=by
   rcases hx with hx | hx
   ·rcases fj hx with q | ⟨_,q⟩
    ·exact absurd rfl (B.nocell _ (cv q))
    ·exact q
   ·rcases fj hx with q | ⟨_,q⟩
    ·exact q
    ·exact q
  exact Option.isSome_iff_exists.mp (iN _ _ (cv hf))
 cab:=fun x c h=>by cases (show false=true from h)
 hd:=I.ok.hd
 frames:=I.ok.frames
 stk:=.inl rfl
 exf:=fun b hb=>⟨fun e=>by have:=(hex b hb).1;rw[e] at this;exact absurd (Nat.lt_of_lt_of_le this hC) (Nat.lt_irrefl _),fun x c h=>(hex b hb).2.2.2.1 x c (cV B I.ok h)⟩
 bs:=fun b o e=>I.bs b o e
 bsz:=Nat.le_trans I.ok.bsz I.sz
 noex:=fun b o e hb=>(hex b hb).2.2.2.2 o e
 exfs:=fun b hb hf=>by
  rcases List.mem_cons.mp (I.lC b hf) with e | e
  ·exact(hex b hb).2.2.1 e
  ·exact(hex b hb).2.1 e
 eZ:=I.stack
 frf:=fun b hb=>I.lD b hb
end
end L2
namespace L2
open PySem PySem.Spec PyProof.Rows
section
variable {X:Cx}
abbrev fA (us:List Value) (n:Nat):Obj:={ cls:=.type "list",data:=.seq us.toArray n }
theorem oK {α:Type} {Nc:List Str} {fr:List α} {i:Nat} {x:Str} {o:α} (h1:Nc[i]?=some x) (h2:fr[i]?=some o):(x,o)∈Nc.zip fr:=by
 have h3:(Nc.zip fr)[i]?=some (x,o):=by
  rw[List.getElem?_zip_eq_some]
  exact⟨h1,h2⟩
 exact List.mem_of_getElem? h3
theorem v7 {pins:List (Addr×Obj)} {σ:St} {sc:Scope} {Nc:List Str} {fr:List (Option Nat)} (B:Blk X.N X.env.scope sc Nc fr) {s₀ s₄:Shared} {H₀:Hp} {C D:Addr} {o:Obj} {ex:List Addr} {mC:Str→Option Value}
  (ok:(cm X sc Nc s₀ H₀ C ex (X.pn++pins)).Ok) (I:Inv X pins σ H₀ s₀) (hC:s₀.heap.objs.size≤C) (ho:s₄.os=s₀.os) (hg:s₄.gens=s₀.gens) (hk:∀ b u,s₀.heap.get? b=some u→s₄.heap.get? b=some u) (hn:s₄.heap.Ns C mC)
  (hD:s₀.heap.get? D=some o) (hDH:H₀ D=none) (hDL:D≠X.env.locals) (hDf:D∉X.fs) (hDc:∀ v,o.data≠.cell v) :
  Inv (cm X sc Nc s₀ H₀ C ex (X.pn++pins)) [(D,o)] (jl fr σ) H₀ s₄:=by
 have stk:∀ b,b≠X.env.locals→b∉X.fs→b∉frs X.stack:=fun b h1 h2 h3=>by
  rcases List.mem_cons.mp (I.lC b h3) with e | e
  ·exact h1 e
  ·exact h2 e
 have ltC:∀ {b:Addr} {u:Obj},s₀.heap.get? b=some u→b≠C:=fun e z=>absurd (Nat.lt_of_lt_of_le (Heap.lt_size e) (by rw[z];exact hC)) (Nat.lt_irrefl _)
 refine⟨ok,ho,by rw[hg];exact I.bare,Un.kept hk,⟨mC,hn,fun i x v h1 h2 h3=>?_⟩,fun x c h=>?_,I.hok.fresh hC,fun x c h=>?_,fun p hp=>?_,I.hok.kept hk,?_⟩
 ·have h2':(fr.map fun o=>o.bind fun j=>(σ[j]?).join)[i]?=some (some v):=h2
  rw[List.getElem?_map] at h2'
  cases ef:fr[i]? with
  | none=>rw[ef] at h2';cases h2'
  | some oj=>
   rw[ef] at h2'
   have h4:(oj.bind fun j=>(σ[j]?).join)=some v:=Option.some.inj h2'
   cases oj with
   | none=>cases h4
   | some j=>
    have hz:=B.whence _ (oK h1 ef)
    have hz':(decide (X.N[j]?=some x) && decide (sc.names.lookup x=some .free))=true:=hz
    rw[Bool.and_eq_true] at hz'
    have e1:X.N[j]?=some x:=of_decide_eq_true hz'.1
    have e2:sc.names.lookup x=some .free:=of_decide_eq_true hz'.2
    have h5:σ[j]?=some (some v):=by
     have h6:(σ[j]?).join=some v:=h4
     cases e3:σ[j]? with
     | none=>rw[e3] at h6;cases h6
     | some y=>rw[e3] at h6;exact congrArg some h6
    have hkd:=B.free _ (cv e2) rfl
    obtain⟨m,hm,hl⟩:=I.loc
    have vis:Vis X.env.scope x:=by rcases hkd with k | k;exact .inr (.inl k);exact .inr (.inr k)
    obtain⟨u,r,l⟩:=hl j x v e1 h5 vis
    refine⟨u,r,.inr ⟨lN e2,?_⟩⟩
    rcases l with ⟨k,_⟩ | ⟨_,c,hc,hcell⟩
    ·have k':X.env.scope.names.lookup x=some .local:=k
     rcases hkd with q | q
     ·rw[q] at k';cases k'
     ·rw[q] at k';cases k'
    ·obtain⟨c',hc'⟩:=Option.isSome_iff_exists.mp (iN (cells:=X.env.cells) sc.names [] (cv e2))
     have hc2:=cV B I.ok hc'
     rw[hc] at hc2
     cases hc2
     obtain⟨oc,ho1,ho2⟩:=hcell
     exact⟨c,hc',oc,hk _ _ ho1,ho2⟩
 ·obtain⟨v,oc,h1,h2⟩:=I.cell x c (cV B I.ok h)
  exact⟨v,oc,hk _ _ h1,h2⟩
 ·exact I.freeC x c (cV B I.ok h)
 ·rcases List.mem_append.mp hp with hp | hp
  ·obtain⟨e1,e2,e3,e4,e5⟩:=I.pin p hp
   exact⟨hk _ _ e1,e2,ltC e1,stk _ e3 e4,e5⟩
  ·have e:p=(D,o):=by simpa using hp
   subst e
   exact⟨hk _ _ hD,hDH,ltC hD,stk _ hDL hDf,hDc⟩
 ·show (fr.map _).length=Nc.length
  rw[List.length_map,B.len]
abbrev RunsTo (prog : Program) (w : World) (A : Around) {α : Type} (c : Sem α) (t : Shared) (Q : α → Shared → Prop) : Prop := wpAny (model prog w) A c Q (fun _ _ => False) t
theorem RunsTo.go {prog : Program} {w : World} {A : Around} {α : Type} {c : Sem α} {t : Shared} {Q Q' : α → Shared → Prop} {E : Value → Shared → Prop} (h : RunsTo prog w A c t Q) (f : ∀ a u, Q a u → Q' a u) : wpAny (model prog w) A c Q' E t := wpAny_mono h f fun _ _ z => z.elim
theorem mm {prog : Program} {w : World} {A : Around} {R : Result → Shared → Prop} {s : Shared} {elt tg iter : Expr} {sc : Scope} {pos : Pos} {it acc : Value} {env : Env} (J : Nat → Shared → Prop)
    (one : ∀ k t, J k t → RunsTo prog w A (pyNext it) t fun r t1 => match r with
      | none => R (.ok .next) t1
      | some v => RunsTo prog w A (letOwnedTupleGo tg it v) t1 fun _ t2 => RunsTo prog w A (assign tg env v) t2 fun _ t3 => RunsTo prog w A (eval elt env) t3 fun x t4 =>
          RunsTo prog w A (call (.builtin "list.append") [acc, x]) t4 fun _ t5 => ∃ j, j < k ∧ J j t5)
    (k : Nat) (h : J k s) : codeAny (model prog w) A (.compLoop (.ListComp elt [⟨tg, iter, [], 0⟩] sc pos) 0 it acc env) R s :=
  PySem.W.kcp_loop J (fun k t hJ => (one k t hJ).go fun r t1 q => match r, q with
    | none, q => q
    | some _, q => RunsTo.go q fun _ _ q => RunsTo.go q fun _ _ q => RunsTo.go q fun _ _ q => RunsTo.go q fun _ _ q => q) k h
theorem ka {elt iter tg:Expr} {sc:Scope} {pos:Pos} {Nc:List Str} {fr:List (Option Nat)} {g:TG} {te:TE} (B:Blk X.N X.env.scope sc Nc fr) (hc:X.calm=true)
  (hg:∀ s₀ H₀ C ex pn,PG (cm X sc Nc s₀ H₀ C ex pn) tg g) (he:∀ s₀ H₀ C ex pn,PE (cm X sc Nc s₀ H₀ C ex pn) elt te)
  {pins:List (Addr×Obj)} {σ:St} {s2:Shared} {H2:Hp} {it:Addr} {fp:List Addr} {tn:Nat→Heap→Prop} {J:It} (I2:Inv X pins σ H2 s2) (T:Turn X.prog X.w X.K tg J fp it tn) (st2:tn 0 s2.heap) (f2:∀ b∈fp,i_ X pins H2 b)
  {Q:VK} (cw:xl J g te (jl fr σ) H2 Q) {RR:Value→Addr→Result→Shared→Prop} {E:Value→Shared→Prop}
  (hRR:∀ D C s' H',Inv X pins σ H' s'→(∃ m,s'.heap.Ns C m)→i_ X pins H' C→Q (.ref D) H'→RR (.ref D) C (.ok .next) s') :
  wpAny (model X.prog X.w) X.A (newList []) (fun acc s₃=>wpAny (model X.prog X.w) X.A (newFunctionEnv sc X.env.globals (takes X.env.cells sc.names []) [] X.env.qual none .none (some X.env)) (fun cenv s₄=>
   codeAny (model X.prog X.w) X.A (.compStart (.ListComp elt [⟨tg,iter,[],0⟩] sc pos) 0 (.ref it) acc { cenv with scope:=relabel sc X.env }) (RR acc cenv.locals) s₄) E s₃) E s2:=by
 obtain⟨W,⟨m0,w0⟩,turn⟩:=cw
 refine wpAny_newObj_type (wpAny_newFunctionEnv B.nocell (by intro y hy;simp at hy) (fun h₁ hns₁ hsb₁=>?_) B.kind)
 dsimp only at hns₁ hsb₁ ⊢
 generalize hH2:s2.heap.push { cls:=.type "list",dict:=none,data:=.seq ([]:List Value).toArray }=hp at hns₁ hsb₁ ⊢
 have hCs:hp.objs.size=s2.heap.objs.size + 1:=by rw[← hH2,Heap.size_push]
 generalize hCe:hp.objs.size=C at hns₁ hsb₁ ⊢
 generalize hDe:s2.heap.objs.size=D at hCs ⊢
 have hDC:D≠C:=by rw[← hCe,hCs];exact Nat.ne_of_lt (Nat.lt_succ_self _)
 have up:∀ b o,s2.heap.get? b=some o→hp.get? b=some o:=fun b o e=>by rw[← hH2];exact Heap.get?_push_of_some _ e
 have hDp:hp.get? D=some (fA [] 0):=by rw[← hH2,← hDe];exact Heap.get?_push_size _ rfl
 have I3:Inv X pins σ H2 { s2 with heap:=hp }:=I2.kept (t':=s2.toks) up
 have hD0:H2 D=none:=I2.hok.fresh (by rw[hDe];exact Nat.le_refl _)
 have fD:i_ X pins H2 D:=I2.oR (by rw[hDe];exact Nat.le_refl _) hD0
 have fpo:∀ b∈fp,∃ o,s2.heap.get? b=some o∧∀ v,o.data≠.cell v:=T.obj 0 _ st2
 have fplt:∀ b∈fp,b < D:=fun b hb=>by obtain⟨o,e,_⟩:=fpo b hb;rw[← hDe];exact Heap.lt_size e
 have hDfp:D∉fp:=fun hb=>Nat.lt_irrefl _ (fplt D hb)
 have hCfp:C∉fp:=fun hb=>by have:=fplt C hb;rw[← hCe,hCs] at this;exact absurd (Nat.lt_of_succ_lt this) (Nat.lt_irrefl _)
 have nobase:∀ b,(b∈X.ex∨X.s₀.heap.objs.size≤b)→∀ o,X.base.get? b≠some o:=fun b h o e=>by
  rcases h with h | h
  ·exact I2.ok.noex b o e h
  ·exact absurd (Nat.lt_of_lt_of_le (Heap.lt_size e) (Nat.le_trans I2.ok.bsz h)) (Nat.lt_irrefl _)
 have hex:∀ b∈D::fp,b < hp.objs.size∧b∉X.fs∧b≠X.env.locals∧(∀ x c,X.env.cells.lookup x=some c→c≠b)∧∀ o,X.base.get? b≠some o:=fun b hb=>by
  have fb:i_ X pins H2 b:=by
   rcases List.mem_cons.mp hb with e | hb
   ·rw[e];exact fD
   ·exact f2 b hb
  refine⟨?_,fb.2.2.1,fb.2.1,fb.2.2.2.2.1,nobase b fb.2.2.2.1⟩
  rcases List.mem_cons.mp hb with e | hb
  ·rw[e,hCs];exact Nat.lt_succ_self _
  ·rw[hCs];exact Nat.lt_succ_of_lt (fplt b hb)
 have hCle:hp.objs.size≤C:=by rw[hCe];exact Nat.le_refl _
 have ok:(cm X sc Nc { s2 with heap:=hp } H2 C (D::fp) (X.pn++pins)).Ok:=zx B I3 hCle hex
 have old:∀ b u,hp.get? b=some u→h₁.get? b=some u:=fun b u e=>by
  have hb:b≠C:=by rw[← hCe];exact Nat.ne_of_lt (Heap.lt_size e)
  exact(hsb₁.2 b hb).trans (Heap.get?_push_of_some _ e)
 have J0:Inv (cm X sc Nc { s2 with heap:=hp } H2 C (D::fp) (X.pn++pins)) [(D,fA [] 0)] (jl fr σ) H2 { s2 with heap:=h₁,toks:=s2.toks + ([]:List (Str×Value)).length }:=
  v7 B ok I3 hCle rfl rfl old hns₁ hDp hD0 fD.2.1 fD.2.2.1 (fun v z=>by cases z)
 have fpY:∀ {H':Hp} {u:Obj},(∀ b∈fp,H' b=none)→∀ b∈fp,i_ (cm X sc Nc { s2 with heap:=hp } H2 C (D::fp) (X.pn++pins)) [(D,u)] H' b:=fun {H' u} hn b hb=>
  ⟨hn b hb,fun e=>hCfp (by have e':b=C:=e;rw[← e'];exact hb),ok.exfs b (List.mem_cons_of_mem _ hb),.inl (List.mem_cons_of_mem _ hb),(ok.exf b (List.mem_cons_of_mem _ hb)).2,fun p hp'=>by
   rcases List.mem_append.mp hp' with q | q
   ·exact(f2 b hb).2.2.2.2.2 p q
   ·have e:p=(D,u):=by simpa using q
    rw[e]
    exact fun z=>hDfp (by have z':D=b:=z;rw[z'];exact hb)⟩
 have cellY:∀ {x:Str} {c:Addr},(takes X.env.cells sc.names []).lookup x=some c→c≠D:=fun h=>(ok.exf D List.mem_cons_self).2 _ _ h
 have loop:codeAny (model X.prog X.w) X.A (.compLoop (.ListComp elt [⟨tg,iter,[],0⟩] sc pos) 0 (.ref it) (.ref D) (compEnvC sc (takes X.env.cells sc.names []) C X.env)) (RR (.ref D) C) { s2 with heap:=h₁,toks:=s2.toks + ([]:List (Str×Value)).length }:=by
  refine mm (fun n s'=>∃ (i:Nat) (ys:List V) (us:List Value) (σc:St) (H':Hp),Inv (cm X sc Nc { s2 with heap:=hp } H2 C (D::fp) (X.pn++pins)) [(D,fA us us.length)] σc H' s'∧Vals ys us∧tn i s'.heap∧(∀ b∈fp,H' b=none)∧W i n ys σc H')
   ?_ m0 ⟨0,[],[],_,H2,J0,.nil,T.keep _ _ _ st2 (fun b _ o e=>old b o (up b o e)),fun b hb=>(f2 b hb).1,w0⟩
  rintro n s3 ⟨i,ys,us,σ3,H3,I3',rv,st3,fr3,w3⟩
  obtain⟨hsz,hcase⟩:=turn i n ys σ3 H3 w3
  rcases hcase with ⟨stop,qn⟩ | ⟨go,step⟩
  ·refine thn (T.done (cm X sc Nc { s2 with heap:=hp } H2 C (D::fp) (X.pn++pins)) rfl rfl rfl hc i _ s3 σ3 H3 _ I3' (fpY fr3) st3 stop) fun r s4 ⟨hr,I4⟩=>?_
   subst hr
   obtain⟨pD,pH,_,_,_⟩:=I4.pin (D,fA us us.length) (List.mem_append_right _ List.mem_cons_self)
   obtain⟨mC',hnC,_⟩:=I4.loc
   have un:Un (frs X.stack) fp H2 (upd H3 D (.lst ys)) s2.heap s4.heap:=by
    have u0:Un (frs X.stack) (D::fp) H2 H3 hp s4.heap:=I4.base
    have neD:∀ {b:Addr} {o:Obj},s2.heap.get? b=some o→b≠D:=fun e=>by rw[← hDe];exact Nat.ne_of_lt (Heap.lt_size e)
    have nx:∀ {b:Addr} {o:Obj},s2.heap.get? b=some o→b∉fp→b∉D::fp:=fun e h1 h2=>by
     rcases List.mem_cons.mp h2 with z | z
     ·exact neD e z
     ·exact h1 z
    have neT:∀ {b:Addr} {o:HO},H2 b=some o→b≠D:=fun e z=>by rw[z,hD0] at e;cases e
    exact⟨fun b o e n hb hx=>u0.keep b o (up b o e) n hb (nx e hx),fun b o e n hb hx=>u0.slot b o (up b o e) n hb (nx e hx),fun b o e n hx=>by rw[ag (neD e)];exact u0.free b o (up b o e) n (nx e hx),
     fun b o e hx=>u0.there b o (up b o e) (nx e hx),fun b xs e=>by rw[ag (neT e)];exact u0.tups b xs e,fun b o xs e=>by rw[ag (neT e)];exact u0.frzs b o xs e,fun b ps e=>by rw[ag (neT e)];exact u0.tbls b ps e⟩
   have hok:HOk X.prog X.w (upd H3 D (.lst ys)) s4.heap:=fun b u e=>by
    by_cases hb:b=D
    ·subst hb
     rw[ax] at e
     cases e
     exact⟨Nat.le_of_lt hsz,us,us.length,rv,pD⟩
    ·rw[ag hb] at e
     refine(I4.hok b u e).iP (fun c v _ q=>q) (fun c q=>?_) fun c xs q=>?_
     ·rw[ag (fun z=>by rw[z] at q;rw[show H3 D=none from pH] at q;cases q)];exact q
     ·rw[ag (fun z=>by rw[z] at q;rw[show H3 D=none from pH] at q;cases q)];exact q
   have I5:Inv X pins σ (upd H3 D (.lst ys)) s4:=I2.tY I4.os un hok I4.bare fun b hb=>⟨(f2 b hb).2.2.2.1,(f2 b hb).2.1,(f2 b hb).2.2.2.2.1,(f2 b hb).2.2.2.2.2⟩
   refine hRR D C s4 _ I5 ⟨mC',hnC⟩ ?_ (qn D pH)
   have hC2:s2.heap.objs.size≤C:=by rw[hDe,← hCe,hCs];exact Nat.le_succ _
   refine I2.oR hC2 ?_
   rw[ag (Ne.symm hDC)]
   exact I4.free
  ·refine thn (T.item (cm X sc Nc { s2 with heap:=hp } H2 C (D::fp) (X.pn++pins)) rfl rfl rfl hc i _ s3 σ3 H3 _ I3' (fpY fr3) st3 go) fun r s4 ⟨u,hr,h4⟩=>?_
   subst hr
   refine thn h4 fun _ s5 ⟨x,H5,I5,r5,y5,st5,fr5⟩=>?_
   have I5':=I5.pinned (fpY fr5) (T.obj _ _ st5)
   refine thn (hg _ _ _ _ _ _ s5 σ3 H5 x u _ I5' r5 (step x H5 y5)) fun _ s6 ⟨σ6,H6,I6,N,hN,q6⟩=>?_
   refine thn (he _ _ _ _ _ _ s6 σ6 H6 _ I6 q6) fun y s7 ⟨yv,H7,I7,r7,q7⟩=>?_
   obtain⟨pD,pH,pL,pF,pc⟩:=I7.pin (D,fA us us.length) (List.mem_append_right _ (List.mem_append_left _ List.mem_cons_self))
   have hlen:us.length=ys.length:=rv.length.symm
   refine append_at (hsz:=by rw[List.size_toArray,hlen];exact Nat.le_of_lt hsz) pD fun h8 sb8 hD8=>?_
   obtain⟨m',hm,w8⟩:=hN yv H7 q7
   have st7:tn (i + 1) s7.heap:=T.keep _ _ _ st5 fun b hb o e=>(I7.pin (b,o) (List.mem_append_right _ (List.mem_append_right _ (ej hb e)))).1
   have fr7:∀ b∈fp,H7 b=none:=fun b hb=>by
    obtain⟨o,e,d⟩:=T.obj _ _ st5 b hb
    exact(I7.pin (b,o) (List.mem_append_right _ (List.mem_append_right _ (ej hb e)))).2.1
   have I7n:Inv (cm X sc Nc { s2 with heap:=hp } H2 C (D::fp) (X.pn++pins)) [] σ6 H7 s7:=I7.ik fun p z=>absurd z (by simp)
   have I8:Inv (cm X sc Nc { s2 with heap:=hp } H2 C (D::fp) (X.pn++pins)) [] σ6 H7 { s7 with heap:=h8 }:=
    I7n.turned (t':=s7.toks) (it:=D) (fun b o hb e=>(sb8.2 b hb).trans e) pH pL (.inl List.mem_cons_self) (fun x c e=>(ok.exf D List.mem_cons_self).2 x c e) fun p hp'=>by
     have hp2:p∈X.pn++pins:=by simpa using hp'
     exact fD.2.2.2.2.2 p hp2
   have e8:h8.get? D=some (fA (us++[y]) (us++[y]).length):=by
    rw[hD8]
    simp
   refine⟨m',hm,i + 1,ys++[yv],us++[y],σ6,H7,I8.ik fun p z=>?_,rv.append (.cons r7 .nil),T.keep _ _ _ st7 fun b hb o e=>(sb8.2 b fun z=>hDfp (by rw[← z];exact hb)).trans e,fr7,w8⟩
   have e:p=(D,fA (us++[y]) (us++[y]).length):=by simpa using z
   subst e
   exact⟨e8,pH,pL,pF,fun v z=>by cases z⟩
 exact codeAny_compStart_list loop (wpAny_mono (T.self X.A 0 _ _ (fun _ _=>False) (T.keep _ _ _ st2 (fun b _ o e=>old b o (up b o e))) loop) (fun _ _ h=>h) fun _ _ h=>h.elim)
theorem p7 {pins:List (Addr×Obj)} {σ:St} {H:Hp} {s:Shared} {sc:Scope} {Nc:List Str} {fr:List (Option Nat)} (B:Blk X.N X.env.scope sc Nc fr) (I:Inv X pins σ H s):closureFor sc X.env=pure (takes X.env.cells sc.names []):=
 kr fun y hy hf=>I.ok.has y.1 (B.free y hy hf)
theorem u5 {elt iter tg:Expr} {sc:Scope} {pos:Pos} {Nc:List Str} {fr:List (Option Nat)} {wi:TI} {g:TG} {te:TE} (hc:X.calm=true) (hi:PI X tg iter wi) (B:Blk X.N X.env.scope sc Nc fr)
  (hg:∀ s₀ H₀ C ex pn,PG (cm X sc Nc s₀ H₀ C ex pn) tg g) (he:∀ s₀ H₀ C ex pn,PE (cm X sc Nc s₀ H₀ C ex pn) elt te) (hs:∀ x,foldedSetIterable iter X.env x=pure x:=by intro _;rfl) :
  PE X (.ListComp elt [⟨tg,iter,[],0⟩] sc pos) (mE fr wi g te):=by
 intro pins s σ H Q I h
 rw[eval_ListComp]
 refine wpAny_comprehension_free (use:=none) rfl hs (p7 B I) B.kind B.locs (thn (hi pins s σ H _ I h) fun v s1 h1=>thn h1 fun itv s2 h2=>?_)
 obtain⟨it,fp,tn,J,H2,e,I2,T,st2,f2,cw⟩:=h2
 subst e
 refine ka (RR:=fun acc C=>compPost (model X.prog X.w) X.A X.xe none (EP X pins σ Q) acc C) B hc hg he I2 T st2 f2 cw fun D C s' H' I' hn fC q=>?_
 obtain⟨m,hn⟩:=hn
 exact⟨m,hn,fun h' sb=>⟨.ref D,H',I'.turned (t':=s'.toks) (fun b o hb e=>(sb.2 b hb).trans e) fC.1 fC.2.1 fC.2.2.2.1 fC.2.2.2.2.1 fC.2.2.2.2.2,rfl,q⟩⟩
theorem oh {i:Nat} {x:Str} {px spos:Pos} {elt iter tg:Expr} {sc:Scope} {pos:Pos} {Nc:List Str} {fr:List (Option Nat)} {wi:TI} {g:TG} {te:TE} (hN:X.N.Nodup) (hi':X.N[i]?=some x) (hx:X.env.scope.names.lookup x=some .local)
  (hc:X.calm=true) (hi:PI X tg iter wi) (B:Blk X.N X.env.scope sc Nc fr)
  (hg:∀ s₀ H₀ C ex pn,PG (cm X sc Nc s₀ H₀ C ex pn) tg g) (he:∀ s₀ H₀ C ex pn,PE (cm X sc Nc s₀ H₀ C ex pn) elt te)
  (hsw:swapsWith (.ListComp elt [⟨tg,iter,[],0⟩] sc pos) (some (.Name x px)) spos.line X.env=pure true:=by rfl) (hs:∀ x,foldedSetIterable iter X.env x=pure x:=by intro _;rfl) :
  PS X (.Assign [.Name x px] (.ListComp elt [⟨tg,iter,[],0⟩] sc pos) spos) (lB (mE fr wi g te) (jh i)):=by
 intro pins s σ H D I h
 rw[exec_Assign_Name_used _ _ _ _ hsw]
 refine wpAny_bind (wpAny_standAt (wpAny_bind ?_))
 show wpAny _ X.A (do let _ ← comprehension (.ListComp elt [⟨tg,iter,[],0⟩] sc pos) sc X.env _ (newList []) false (eval iter X.env) (some (assign (.Name x px) X.env))) _ _ s
 refine wpAny_bind (wpAny_mono (wpAny_comprehension_free (use:=some (assign (.Name x px) X.env)) (Q:=fun _ s'=>SP X pins D .next s') rfl hs (p7 B I) B.kind B.locs
  (thn (hi pins s σ H _ I h) fun v s1 h1=>thn h1 fun itv s2 h2=>?_)) (fun _ s' hq=>wpAny_pure (wpAny_pure hq)) fun _ _ e=>e)
 obtain⟨it,fp,tn,J,H2,e,I2,T,st2,f2,cw⟩:=h2
 subst e
 refine ka (RR:=fun acc C=>compPost (model X.prog X.w) X.A X.xe (some (assign (.Name x px) X.env)) (fun _ s'=>SP X pins D .next s') acc C) B hc hg he I2 T st2 f2 cw fun L C s' H' I' hn fC q=>?_
 obtain⟨m,hn⟩:=hn
 show wpAny _ X.A (assign (.Name x px) X.env (.ref L)) _ _ _
 refine wpAny_assign_Name (kH I' hN hi' (.inl hx) (v:=.ref L) rfl (fun s3 I3 hs3=>?_) (.inr hx))
 obtain⟨a,sb,ha⟩:=hs3
 have hCa:C≠a:=by
  rcases ha with e | e
  ·rw[e];exact fC.2.1
  ·exact fun z=>fC.2.2.2.2.1 _ _ e (by rw[z])
 exact⟨m,hn.sameBut sb hCa,fun h' sb'=>⟨_,H',I3.turned (t':=s3.toks) (fun b o hb e=>(sb'.2 b hb).trans e) fC.1 fC.2.1 fC.2.2.2.1 fC.2.2.2.2.1 fC.2.2.2.2.2,q⟩⟩
end
end L2
namespace L2
open PySem PySem.Spec PyProof.Rows
section
variable {X:Cx}
theorem nC:∀ {bs:List Bool} {us:List Value},Vals (bs.map V.bl) us→LSm.BoolsAre us bs
 | [],_,.nil=>.nil
 | _::_,_,.cons r t=>by
  obtain rfl:=(show _=Value.bool _ from r)
  exact .cons _ (nC t)
theorem qQ (hc:X.calm=true):bQ X (.builtin "all") (fun xs H Q=>∃ (p:Addr) (bs:List Bool),xs=[.ref p]∧SqL X.K H p (bs.map V.bl)∧Q (.bl (bs.all id)) H):=by
 intro pins s σ H xs us Q I r h
 obtain⟨p,bs,rfl,hq,q⟩:=h
 obtain⟨u,rfl,ru⟩:=vals1 r
 cases ru
 obtain⟨its,rv,pl,hz⟩:=I.list hq
 have hb:=nC rv
 have hl:=pl.isList
 have hlt:p < s.heap.objs.size:=by obtain⟨_,e,_⟩:=hl;exact Heap.lt_size e
 refine call_all_walk (wpAny_pyIter_list hl ⟨s.heap.objs.size,[s.heap.objs.size,p],[s.heap.objs.size],its.toArray.size,_,_,fun i=>(bs[i]?).getD true,rfl,Walks.list (A:=X.A.in1) (I.ok.hd hc) _ p (Nat.ne_of_lt hlt) its.toArray,⟨⟨_,Heap.get?_push_size _ rfl,rfl,rfl⟩,hl.push _⟩,
  fun i v s' Q' E' hP hQ=>?_,fun h' tk hk=>?_⟩)
 ·obtain⟨b,e,rfl⟩:=hb.get i v (by simpa using hP)
  simp only[e,Option.getD_some] at hQ
  exact wpAny_truthy_bool hQ
 ·have e:((List.range its.toArray.size).all fun i=>(bs[i]?).getD true)=bs.all id:=by rw[List.size_toArray,hb.length,LSm.range_all bs]
  rw[e]
  exact⟨.bl _,H,I.kept (LSm.kept_iter hk),rfl,q⟩
structure eO (K:PySem.W.Frag):Prop where
 bb:PySem.W.kitOne K (.type "bool") (.type "bool")=some true
 bi:PySem.W.kitOne K (.type "bool") (.type "int")=some true
 bl:PySem.W.kitOne K (.type "bool") (.type "list")=some false
 bt:PySem.W.kitOne K (.type "bool") (.type "tuple")=some false
 ib:PySem.W.kitOne K (.type "int") (.type "bool")=some false
 ii:PySem.W.kitOne K (.type "int") (.type "int")=some true
 il:PySem.W.kitOne K (.type "int") (.type "list")=some false
 it:PySem.W.kitOne K (.type "int") (.type "tuple")=some false
 nb:PySem.W.kitOne K (.type "NoneType") (.type "bool")=some false
 ni:PySem.W.kitOne K (.type "NoneType") (.type "int")=some false
 nl:PySem.W.kitOne K (.type "NoneType") (.type "list")=some false
 nt:PySem.W.kitOne K (.type "NoneType") (.type "tuple")=some false
 sb:PySem.W.kitOne K (.type "str") (.type "bool")=some false
 si:PySem.W.kitOne K (.type "str") (.type "int")=some false
 sl:PySem.W.kitOne K (.type "str") (.type "list")=some false
 st:PySem.W.kitOne K (.type "str") (.type "tuple")=some false
 lb:PySem.W.kitOne K (.type "list") (.type "bool")=some false
 li:PySem.W.kitOne K (.type "list") (.type "int")=some false
 ll:PySem.W.kitOne K (.type "list") (.type "list")=some true
 lt:PySem.W.kitOne K (.type "list") (.type "tuple")=some false
 tb:PySem.W.kitOne K (.type "tuple") (.type "bool")=some false
 ti:PySem.W.kitOne K (.type "tuple") (.type "int")=some false
 tl:PySem.W.kitOne K (.type "tuple") (.type "list")=some false
 tt:PySem.W.kitOne K (.type "tuple") (.type "tuple")=some true
 db:PySem.W.kitOne K (.type "dict") (.type "bool")=some false
 di:PySem.W.kitOne K (.type "dict") (.type "int")=some false
 dl:PySem.W.kitOne K (.type "dict") (.type "list")=some false
 dt:PySem.W.kitOne K (.type "dict") (.type "tuple")=some false
inductive Kn (H:Hp):V→Prop where
 | non:Kn H .non
 | bl (b:Bool):Kn H (.bl b)
 | int (i:Int):Kn H (.int i)
 | str (x:Str):Kn H (.str x)
 | lst {a:Addr} {xs:List V} (e:H a=some (.lst xs)):Kn H (.ref a)
 | tup {a:Addr} {xs:List V} (e:H a=some (.tup xs)):Kn H (.ref a)
 | dK {a:Addr} {kvs:List (Key×V)} (e:H a=some (.dK kvs)):Kn H (.ref a)
def isB:V→Bool
 | .bl _=>true
 | _=>false
def isI:V→Bool
 | .bl _=>true
 | .int _=>true
 | _=>false
def isL (H:Hp):V→Bool
 | .ref a=>match H a with
  | some (.lst _)=>true
  | _=>false
 | _=>false
def isT (H:Hp):V→Bool
 | .ref a=>match H a with
  | some (.tup _)=>true
  | _=>false
 | _=>false
theorem pY {H:Hp} {a:Addr} {xs:List V} (h:H a=some (.lst xs)):isL H (.ref a)=true:=by simp only[isL,h]
theorem pX {H:Hp} {a:Addr} {xs:List V} (h:H a=some (.tup xs)):isL H (.ref a)=false:=by simp only[isL,h]
theorem sY {H:Hp} {a:Addr} {xs:List (Key×V)} (h:H a=some (.dK xs)):isL H (.ref a)=false:=by simp only[isL,h]
theorem ar {pins:List (Addr×Obj)} {s:Shared} {σ:St} {H:Hp} {x:V} {c:String} {us:List Value} {t:Value} {b b':Bool} {Q:VK} (I:Inv X pins σ H s) (r:Vals [x,.ty c] us) (ty:gy X.K H x t) (e:PySem.W.kitOne X.K t (.type c)=some b) (eb:b'=b) (q:Q (.bl b') H) :
  wpAny (model X.prog X.w) X.A (call (.builtin "isinstance") us) (EP X pins σ Q) X.xe s:=by
 obtain⟨u,w',rfl,ru,rw'⟩:=vals2 r
 obtain rfl:w'=Value.type c:=rw'
 subst eb
 exact kR I ru ty e fun tk=>⟨.bl b',H,I.tok _,rfl,q⟩
theorem tW (F:eO X.K):bQ X (.builtin "isinstance") (fun xs H Q=>∃ x,xs=[x,.ty "bool"]∧Kn H x∧Q (.bl (isB x)) H):=by
 intro pins s σ H xs us Q I r h
 obtain⟨x,rfl,k,q⟩:=h
 cases k with
 | non=>exact ar I r .non F.nb rfl q
 | bl b=>exact ar I r (.bl b) F.bb rfl q
 | int i=>exact ar I r (.int i) F.ib rfl q
 | str y=>exact ar I r (.str y) F.sb rfl q
 | lst e=>exact ar I r (.lst e) F.lb rfl q
 | tup e=>exact ar I r (.tup e) F.tb rfl q
 | dK e=>exact ar I r (.dK e) F.db rfl q
theorem tU (F:eO X.K):bQ X (.builtin "isinstance") (fun xs H Q=>∃ x,xs=[x,.ty "int"]∧Kn H x∧Q (.bl (isI x)) H):=by
 intro pins s σ H xs us Q I r h
 obtain⟨x,rfl,k,q⟩:=h
 cases k with
 | non=>exact ar I r .non F.ni rfl q
 | bl b=>exact ar I r (.bl b) F.bi rfl q
 | int i=>exact ar I r (.int i) F.ii rfl q
 | str y=>exact ar I r (.str y) F.si rfl q
 | lst e=>exact ar I r (.lst e) F.li rfl q
 | tup e=>exact ar I r (.tup e) F.ti rfl q
 | dK e=>exact ar I r (.dK e) F.di rfl q
theorem tS (F:eO X.K):bQ X (.builtin "isinstance") (fun xs H Q=>∃ x,xs=[x,.ty "list"]∧Kn H x∧Q (.bl (isL H x)) H):=by
 intro pins s σ H xs us Q I r h
 obtain⟨x,rfl,k,q⟩:=h
 cases k with
 | non=>exact ar I r .non F.nl rfl q
 | bl b=>exact ar I r (.bl b) F.bl rfl q
 | int i=>exact ar I r (.int i) F.il rfl q
 | str y=>exact ar I r (.str y) F.sl rfl q
 | lst e=>exact ar I r (.lst e) F.ll (pY e) q
 | tup e=>exact ar I r (.tup e) F.tl (pX e) q
 | dK e=>exact ar I r (.dK e) F.dl (sY e) q
mutual
inductive Dt (K:PySem.W.Frag) (H:Hp):V→PyData→Prop where
 | non:Dt K H .non .none
 | bl (b:Bool):Dt K H (.bl b) (.bool b)
 | int (i:Int):Dt K H (.int i) (.int i)
 | str (x:Str):Dt K H (.str x) (.str x)
 | lst {a:Addr} {xs:List V} {ds:List PyData}:SqL K H a xs→bI K H xs ds→Dt K H (.ref a) (.list ds)
 | tup {a:Addr} {xs:List V} {ds:List PyData}:SqT K H a xs→bI K H xs ds→Dt K H (.ref a) (.tuple ds)
 | dct {a:Addr}:H a=some (.dK [])→Dt K H (.ref a) (.dict [])
inductive bI (K:PySem.W.Frag) (H:Hp):List V→List PyData→Prop where
 | nil:bI K H [] []
 | cons {x:V} {xs:List V} {d:PyData} {ds:List PyData}:Dt K H x d→bI K H xs ds→bI K H (x::xs) (d::ds)
end
theorem oV {pins:List (Addr×Obj)} {σ:St} {H:Hp} {s:Shared} {a:Addr} (I:Inv X pins σ H s) (h:H a=some (.dK [])):∃ o n,s.heap.get? a=some o∧o.cls=.type "dict"∧o.data=.dict #[] n∧(a == sysModules)=false:=by
 obtain⟨_,q,vs,kv,o,es,n,e1,e2,e3,_,e4,_⟩:=Bp I.hok h
 have:vs=[]:=by cases kv;rfl
 subst this
 have:es.toList=[]:=by cases e:es.toList with
  | nil=>rfl
  | cons x xs=>rw[e] at e4;cases e4
 have:es=#[]:=by cases es;simp_all
 subst this
 exact⟨o,n,e1,e2.1,e3,q⟩
mutual
theorem Dt.reads {pins:List (Addr×Obj)} {σ:St} {H:Hp} {s:Shared} (I:Inv X pins σ H s):∀ {x:V} {d:PyData} {u:Value},Dt X.K H x d→RelV x u→∃ as,Reads s.heap u d as
 | _,_,_,.non,r=>by cases r;exact⟨_,.none⟩
 | _,_,_,.bl b,r=>by cases r;exact⟨_,.bool b⟩
 | _,_,_,.int i,r=>by obtain⟨t,rfl⟩:=r;exact⟨_,.int i t⟩
 | _,_,_,.str y,r=>by obtain⟨t,rfl⟩:=r;exact⟨_,.str y t⟩
 | _,_,_,.lst hq hs,r=>by
  cases r
  obtain⟨its,rv,⟨o,n,e1,e2,e3,e4⟩,hz⟩:=I.list hq
  obtain⟨as,h⟩:=bI.reads I hs rv
  exact⟨_,.list e1 e2 e4 (by simpa using h)⟩
 | _,_,_,.tup hq hs,r=>by
  cases r
  obtain⟨its,rv,⟨o,e1,e2,n,e4⟩,hz⟩:=I.tuple hq
  obtain⟨as,h⟩:=bI.reads I hs rv
  exact⟨_,.tuple e1 e2 e4 (by simpa using h)⟩
 | _,_,_,.dct hq,r=>by
  cases r
  obtain⟨o,n,e1,e2,e3,_⟩:=oV I hq
  exact⟨_,.dict e1 e2 e3 .nil .nil⟩
theorem bI.reads {pins:List (Addr×Obj)} {σ:St} {H:Hp} {s:Shared} (I:Inv X pins σ H s):∀ {xs:List V} {ds:List PyData} {us:List Value},bI X.K H xs ds→Vals xs us→∃ as,ReadsAll s.heap us ds as
 | _,_,_,.nil,.nil=>⟨_,.nil⟩
 | _,_,_,.cons h1 h2,.cons r1 r2=>by
  obtain⟨as,a⟩:=Dt.reads I h1 r1
  obtain⟨bs,b⟩:=bI.reads I h2 r2
  exact⟨_,.cons a b⟩
end
structure Shw (d:PyData):Prop where
 sh:d.showable=true
 dp:d.depth≤20
 sz:d.shown.length≤sizeLine
def zD (X:Cx) (h:Heap) (u:Value) (d:PyData):Prop:=∃ bs,ReadAtMost h d.depth bs∧ReprK X.prog X.w bs h d.depth u d.shown
def wm (X:Cx) (h:Heap) (us:List Value) (ds:List PyData):Prop:=∃ bs,ReadAtMost h (PyData.depthAll ds) bs∧ReprAllK X.prog X.w bs h (PyData.depthAll ds) us (PyData.shownAll ds)
theorem zD.is {h:Heap} {u:Value} {d:PyData} (k:ReprIs X.prog X.w u d.shown):zD X h u d:=⟨[],by (intro _ z;cases z),.of_is k _ _ _⟩
mutual
theorem Dt.says {pins:List (Addr×Obj)} {σ:St} {H:Hp} {s:Shared} (I:Inv X pins σ H s):∀ {x:V} {d:PyData} {u:Value},Dt X.K H x d→RelV x u→d.showable=true→d.shown.length≤sizeLine→zD X s.heap u d
 | _,_,_,.non,r,_,_=>by cases r;exact .is (by simp only[PyData.shown];exact .none)
 | _,_,_,.bl b,r,_,_=>by cases r;exact .is (by simp only[PyData.shown];exact .bool b)
 | _,_,_,.int i,r,q,_=>by obtain⟨t,rfl⟩:=r;exact .is (by simp only[PyData.shown];exact .int t (by simpa [PyData.showable] using q))
 | _,_,_,.str y,r,_,z=>by obtain⟨t,rfl⟩:=r;exact .is (by simp only[PyData.shown] at z ⊢;exact .str y t z)
 | _,_,_,.lst (a:=a) (ds:=ds) hq hs,r,q,z=>by
  cases r
  obtain⟨its,rv,⟨o,n,e1,e2,e3,e4⟩,_⟩:=I.list hq
  obtain⟨as,ra⟩:=bI.reads I hs rv
  have rd:Reads s.heap (.ref a) (.list ds) _:=.list e1 e2 e4 (by simpa using ra)
  simp only[PyData.shown] at z
  obtain⟨bs,b1,b2⟩:=bI.says I hs rv (by simpa [PyData.showable] using q) fun t ht=>Nat.le_trans (listText_mem_le ht) z
  have na:=not_mem_of_deeper rd (n:=PyData.depthAll ds) (by simp only[PyData.depth];omega) b1
  refine⟨a::bs,ReadAtMost.cons rd (by simp only[PyData.depth];omega) b1,?_⟩
  simp only[PyData.shown,PyData.depth]
  cases its with
  | nil=>cases rv;cases hs;simp only[PyData.shownAll,listText_nil];exact .listEmpty e1 e2 e4
  | cons y ys=>exact .list e1 e2 e4 na (by rw[b2.length_eq];simp) fun i v e=>b2.item i v (by simpa using e)
 | _,_,_,.tup (a:=a) (ds:=ds) hq hs,r,q,z=>by
  cases r
  obtain⟨its,rv,⟨o,e1,e2,n,e4⟩,_⟩:=I.tuple hq
  obtain⟨as,ra⟩:=bI.reads I hs rv
  have rd:Reads s.heap (.ref a) (.tuple ds) _:=.tuple e1 e2 e4 (by simpa using ra)
  simp only[PyData.shown] at z
  obtain⟨bs,b1,b2⟩:=bI.says I hs rv (by simpa [PyData.showable] using q) fun t ht=>Nat.le_trans (tupleText_mem_le ht) z
  have na:=not_mem_of_deeper rd (n:=PyData.depthAll ds) (by simp only[PyData.depth];omega) b1
  refine⟨a::bs,ReadAtMost.cons rd (by simp only[PyData.depth];omega) b1,?_⟩
  simp only[PyData.shown,PyData.depth]
  exact .tuple e1 e2 e4 na (by simpa using b2)
 | _,_,_,.dct (a:=a) hq,r,_,_=>by
  cases r
  obtain⟨o,n,e1,e2,e3,e4⟩:=oV I hq
  refine⟨[a],fun b hb=>?_,?_⟩
  ·cases List.mem_singleton.mp hb
   exact⟨_,_,.dict e1 e2 e3 .nil .nil,Nat.le_refl _⟩
  ·have:=ReprK.dict (prog:=X.prog) (w:=X.w) (as:=[]) (d:=0) (ps:=[]) e1 e2 e3 e4 (by intro z;cases z) .nil
   simp only[PyData.shown,PyData.depth,PyData.shownKv,PyData.depthKv]
   exact this
theorem bI.says {pins:List (Addr×Obj)} {σ:St} {H:Hp} {s:Shared} (I:Inv X pins σ H s):∀ {xs:List V} {ds:List PyData} {us:List Value},bI X.K H xs ds→Vals xs us→PyData.showableAll ds=true→(∀ t∈PyData.shownAll ds,t.length≤sizeLine)→wm X s.heap us ds
 | _,_,_,.nil,.nil,_,_=>⟨[],by (intro _ z;cases z),.nil⟩
 | _,_,_,.cons (d:=d) (ds:=ds) h1 h2,.cons r1 r2,q,z=>by
  simp only[PyData.showableAll,Bool.and_eq_true] at q
  simp only[PyData.shownAll,List.mem_cons,forall_eq_or_imp] at z
  obtain⟨as,a1,a2⟩:=Dt.says I h1 r1 q.1 z.1
  obtain⟨bs,b1,b2⟩:=bI.says I h2 r2 q.2 z.2
  have l1:d.depth≤PyData.depthAll (d::ds):=by simp only[PyData.depthAll];exact Nat.le_max_left _ _
  have l2:PyData.depthAll ds≤PyData.depthAll (d::ds):=by simp only[PyData.depthAll];exact Nat.le_max_right _ _
  exact⟨as++bs,(a1.mono l1).append (b1.mono l2),.cons ((a2.more fun _ h=>List.mem_append_left _ h).level_le l1) (b2.more_le (fun _ h=>List.mem_append_right _ h) l2)⟩
end
theorem oX {k:Nat} (hr:bP k X.A):bQ X (.builtin "repr") (fun xs H Q=>∃ a d,xs=[.ref a]∧Dt X.K H (.ref a) d∧Shw d∧Q (.str d.shown) H):=by
 intro pins s σ H xs us Q I r h
 obtain⟨a,d,rfl,hd,S,q⟩:=h
 obtain⟨u,rfl,ru⟩:=vals1 r
 cases ru
 have lu:X.A.units + (d.depth + 1) < cLine:=by have:=hr.units;have:=S.dp;omega
 have fin:∀ h' u tk,(∀ b o,s.heap.get? b=some o→h'.get? b=some o)→∃ x t,Value.str d.shown u=.str x t∧EP X pins σ Q (.str d.shown u) { s with heap:=h',toks:=tk }:=fun h' u tk hk=>⟨_,_,rfl,.str d.shown,H,I.kept hk,⟨_,rfl⟩,q⟩
 have sh:=S.sh
 have sz:=S.sz
 cases hd with
 | @lst _ xs ds hq hs=>
  obtain⟨its,rv,⟨o,n,e1,e2,e3,e4⟩,_⟩:=I.list hq
  obtain⟨as,ra⟩:=bI.reads I hs rv
  have rd:Reads s.heap (.ref a) (.list ds) _:=.list e1 e2 e4 (by simpa using ra)
  simp only[PyData.shown] at sz fin
  simp only[PyData.depth] at lu
  obtain⟨bs,b1,b2⟩:=bI.says I hs rv (by simpa [PyData.showable] using sh) fun t ht=>Nat.le_trans (listText_mem_le ht) sz
  have na:=not_mem_of_deeper rd (n:=PyData.depthAll ds) (by simp only[PyData.depth];omega) b1
  refine call_repr_slot (by omega) ⟨o,e1,e2⟩ F.slot_list_repr.toG ?_
  cases its with
  | nil=>cases rv;cases hs;simp only[PyData.shownAll,listText_nil] at fin;exact call_list_repr_empty ⟨o,e1,e2⟩ e1 e4 (fin s.heap _ _ fun _ _ e=>e)
  | cons y ys=>exact call_list_reprK e1 e2 e4 na (by rw[b2.length_eq];simp) (fun i v e=>b2.item i v (by simpa using e)) hr.gd (fun b _=>Clear.nil b) (by show X.A.units + 1 + _ < _;omega) (fun _ _ e=>e) fin sz
 | @tup _ xs ds hq hs=>
  obtain⟨its,rv,⟨o,e1,e2,n,e4⟩,_⟩:=I.tuple hq
  obtain⟨as,ra⟩:=bI.reads I hs rv
  have rd:Reads s.heap (.ref a) (.tuple ds) _:=.tuple e1 e2 e4 (by simpa using ra)
  simp only[PyData.shown] at sz fin
  simp only[PyData.depth] at lu
  obtain⟨bs,b1,b2⟩:=bI.says I hs rv (by simpa [PyData.showable] using sh) fun t ht=>Nat.le_trans (tupleText_mem_le ht) sz
  have na:=not_mem_of_deeper rd (n:=PyData.depthAll ds) (by simp only[PyData.depth];omega) b1
  exact call_repr_slot (by omega) ⟨o,e1,e2⟩ F.slot_tuple_repr (call_tuple_reprK e1 e2 e4 na (by simpa using b2) hr.gd (fun b _=>Clear.nil b) (by show X.A.units + 1 + _ < _;omega) (fun _ _ e=>e) fin sz)
 | dct hq=>
  obtain⟨o,n,e1,e2,e3,e4⟩:=oV I hq
  simp only[PyData.shown,PyData.shownKv] at sz fin
  simp only[PyData.depth,PyData.depthKv] at lu
  exact call_repr_slot (by omega) ⟨o,e1,e2⟩ F.slot_dict_repr (call_dict_reprK (as:=[]) (d:=0) (ps:=[]) e1 e2 e3 e4 (by intro z;cases z) .nil hr.gd (fun b _=>Clear.nil b) (by show X.A.units + 1 + _ < _;omega) (fun _ _ e=>e) fin sz)
mutual
theorem Dt.same {K:PySem.W.Frag} {H H':Hp} (e:aC H H'):∀ {x:V} {d:PyData},Dt K H x d→Dt K H' x d
 | _,_,.non=>.non
 | _,_,.bl b=>.bl b
 | _,_,.int i=>.int i
 | _,_,.str y=>.str y
 | _,_,.dct hq=>.dct (e _ _ hq)
 | _,_,.lst hq hs=>.lst (e.seq hq) (bI.same e hs)
 | _,_,.tup hq hs=>by
  refine .tup ?_ (bI.same e hs)
  rcases hq with (h | ⟨o,h⟩) | h
  ·exact .inl (.inl (e _ _ h))
  ·exact .inl (.inr ⟨o,e _ _ h⟩)
  ·exact .inr h
theorem bI.same {K:PySem.W.Frag} {H H':Hp} (e:aC H H'):∀ {xs:List V} {ds:List PyData},bI K H xs ds→bI K H' xs ds
 | _,_,.nil=>.nil
 | _,_,.cons h1 h2=>.cons (Dt.same e h1) (bI.same e h2)
end
end
end L2
namespace L2
open PySem PySem.Spec PyProof.Rows
section
variable {X:Cx} {pins:List (Addr×Obj)} {σ:St} {H:Hp} {s:Shared}
theorem Inv.moved {ch:List Addr} {h':Heap} {t':Nat} (I:Inv X pins σ H s) (hch:∀ b∈ch,i_ X pins H b) (hk:∀ b o,b∉ch→s.heap.get? b=some o→h'.get? b=some o):Inv X pins σ H { s with heap:=h',toks:=t' }:=by
 have nt:∀ {b:Addr} {u:HO},H b=some u→b∉ch:=fun e hb=>by rw[(hch _ hb).1] at e;cases e
 refine I.step (g':=s.gens) (d':=s.drawn) (ch:=ch) (fun b hb=>⟨(hch b hb).2.2.2.1,(hch b hb).2.1,(hch b hb).2.2.2.2.1,(hch b hb).2.2.2.2.2⟩) (fun b o _ _ hc e _=>hk b o hc e) (fun b o _ _ hc e _=>⟨o.slots,hk b o hc e⟩) (fun _ _ _ _ n=>n)
  (fun b o hc e=>⟨o,hk b o hc e⟩) (fun _ _ e=>e) (fun _ _ _ e=>e) (fun b ps e=>⟨#[],by rw[e];simp⟩) (fun m hm=>?_) (fun b u e=>?_) I.bare
 ·obtain⟨o,es,ep,ho,r⟩:=hm
  exact⟨o,es,ep,hk _ o (fun hb=>(hch _ hb).2.1 rfl) ho,r⟩
 ·exact(I.hok b u e).iP (fun c v hc q=>hk c v (by rcases hc with z | z <;> first | (rw[z];exact nt e) | exact nt z) q) (fun _ q=>q) fun _ _ q=>q
theorem Inv.pN {ch:List Addr} {T:Addr} {x y:V} {u v:Value} {h':Heap} {t':Nat} (I:Inv X pins σ H s) (hch:∀ b∈ch,i_ X pins H b) (hT:s.heap.objs.size≤T)
  (hk:∀ b o,b∉ch→s.heap.get? b=some o→h'.get? b=some o) (ht:IsTup h' T #[u,v]) (ru:RelV x u) (rv:RelV y v):Inv X pins σ (upd H T (.tup [x,y])) { s with heap:=h',toks:=t' }:=by
 have nt:∀ {b:Addr} {u:HO},H b=some u→b∉ch:=fun e hb=>by rw[(hch _ hb).1] at e;cases e
 have fT:H T=none:=I.hok.fresh hT
 have neT:∀ {b:Addr} {o:Obj},s.heap.get? b=some o→b≠T:=fun e=>Nat.ne_of_lt (Nat.lt_of_lt_of_le (Heap.lt_size e) hT)
 have neH:∀ {b:Addr} {u:HO},H b=some u→b≠T:=fun e z=>by rw[z,fT] at e;cases e
 refine I.step (g':=s.gens) (d':=s.drawn) (ch:=ch) (fun b hb=>⟨(hch b hb).2.2.2.1,(hch b hb).2.1,(hch b hb).2.2.2.2.1,(hch b hb).2.2.2.2.2⟩) (fun b o _ _ hc e _=>hk b o hc e) (fun b o _ _ hc e _=>⟨o.slots,hk b o hc e⟩) (fun b o _ e n=>by rw[ag (neT e)];exact n)
  (fun b o hc e=>⟨o,hk b o hc e⟩) (fun b xs e=>by rw[ag (neH e)];exact e) (fun b o xs e=>by rw[ag (neH e)];exact e) (fun b ps e=>⟨#[],by rw[ag (neH e),e];simp⟩) (fun m hm=>?_) (fun b o e=>?_) I.bare
 ·obtain⟨o,es,ep,ho,r⟩:=hm
  exact⟨o,es,ep,hk _ o (fun hb=>(hch _ hb).2.1 rfl) ho,r⟩
 ·by_cases hb:b=T
  ·subst hb
   rw[ax] at e
   cases e
   exact⟨(by show 2≤sizeLine;decide),[u,v],.cons ru (.cons rv .nil),ht⟩
  ·rw[ag hb] at e
   exact(I.hok b o e).iP (fun c w' hc q=>hk c w' (by rcases hc with z | z <;> first | (rw[z];exact nt e) | exact nt z) q) (fun c q=>by rw[ag (neH q)];exact q) fun c xs q=>by rw[ag (neH q)];exact q
end
def Itz (a b:Addr):It:=
 ⟨fun i H=>∃ xs ys x y,H a=some (.lst xs)∧H b=some (.lst ys)∧xs[i]?=some x∧ys[i]?=some y,
  fun i H v H'=>∃ t xs ys x y,H t=none∧H a=some (.lst xs)∧H b=some (.lst ys)∧xs[i]?=some x∧ys[i]?=some y∧v=.ref t∧H'=upd H t (.tup [x,y]),
  fun i H=>∃ xs ys,H a=some (.lst xs)∧H b=some (.lst ys)∧(xs.length≤i∨ys.length≤i)⟩
def BH (z TI TO i1 i2 l1 l2:Addr) (i:Nat) (h:Heap):Prop:=IsZip h z TI TO .none∧IsPair h TI (.ref i1) (.ref i2)∧(∃ a b,IsPair h TO a b)∧h.IsListIter i1 l1 i∧h.IsListIter i2 l2 i
structure qa (z TI TO i1 i2:Addr):Prop where
 TIz:TI≠z
 TOz:TO≠z
 i1z:i1≠z
 i2z:i2≠z
 TITO:TI≠TO
 TIi1:TI≠i1
 TIi2:TI≠i2
 TOi1:TO≠i1
 TOi2:TO≠i2
 i12:i1≠i2
theorem zQ {P:Program} {w:World} {K:PySem.W.Frag} {es:List Expr} {kt:Nat} {tp:Pos} (z TI TO i1 i2 l1 l2:Addr) (D:qa z TI TO i1 i2) :
  Turn P w K (.Tuple es kt tp) (Itz l1 l2) [z,TI,TO,i1,i2] z (BH z TI TO i1 i2 l1 l2) where
 mem:=by simp
 obj:=fun i h st b hb=>by
  obtain⟨hz,hTI,⟨a,c,hTO⟩,⟨o1,e1,_,d1⟩,⟨o2,e2,_,d2⟩⟩:=st
  simp only[List.mem_cons,List.not_mem_nil,or_false] at hb
  rcases hb with rfl | rfl | rfl | rfl | rfl
  ·exact⟨_,hz,fun v q=>by cases q⟩
  ·exact⟨_,hTI,fun v q=>by cases q⟩
  ·exact⟨_,hTO,fun v q=>by cases q⟩
  ·exact⟨_,e1,fun v q=>by rw[d1] at q;cases q⟩
  ·exact⟨_,e2,fun v q=>by rw[d2] at q;cases q⟩
 keep:=fun i h h' st k=>by
  obtain⟨hz,hTI,⟨a,c,hTO⟩,h1,h2⟩:=st
  exact⟨k z (by simp) _ hz,k TI (by simp) _ hTI,⟨a,c,k TO (by simp) _ hTO⟩,h1.at fun o e=>k i1 (by simp) o e,h2.at fun o e=>k i2 (by simp) o e⟩
 item:=by
  intro X hP hw hK hc i pins s σ H E I hf st hg
  subst hP hw hK
  obtain⟨xs,ys,x,y,ha,hb,hx,hy⟩:=hg
  obtain⟨hz,hTI,⟨a0,b0,hTO⟩,h1,h2⟩:=st
  obtain⟨ia,na,ra,ea,_⟩:=I.lst ha
  obtain⟨ib,nb,rb,eb,_⟩:=I.lst hb
  have nf:∀ b∈[z,TI,TO,i1,i2],H b=none:=fun b hb=>(hf b hb).1
  have ne1:∀ b∈[z,TI,TO,i1,i2],l1≠b:=fun b hb e=>by rw[e,nf b hb] at ha;cases ha
  have ne2:∀ b∈[z,TI,TO,i1,i2],l2≠b:=fun b hb' e=>by rw[e,nf b hb'] at hb;cases hb
  have Z:ZipApart z TI TO i1 i2 l1 l2:=⟨D.TIz,D.TOz,D.i1z,D.i2z,D.TITO,D.TIi1,D.TIi2,D.TOi1,D.TOi2,D.i12,ne1 z (by simp),ne1 TO (by simp),ne1 i1 (by simp),ne1 i2 (by simp),ne2 z (by simp),ne2 TO (by simp),ne2 i1 (by simp),ne2 i2 (by simp)⟩
  obtain⟨u,hu,ru⟩:=ra.get hx
  obtain⟨v,hv,rv⟩:=rb.get hy
  refine wpAny_pyNext_zip_item Z hz hTI hTO h1 h2 (xs:=ia.toArray) (ys:=ib.toArray) ⟨_,ea,rfl,_,rfl⟩ ⟨_,eb,rfl,_,rfl⟩ (x:=u) (y:=v) (by simpa using hu) (by simpa using hv) fun h' a1 a2 a3 a4 a5 a6 hk=>?_
  refine⟨_,rfl,wpAny_letOwnedTupleGo_zip a1 fun h2' hz' hs'=>?_⟩
  have zT:s.heap.objs.size≠z:=Nat.ne_of_gt (Heap.lt_size hz)
  refine⟨.ref s.heap.objs.size,upd H s.heap.objs.size (.tup [x,y]),?_,rfl,⟨_,xs,ys,x,y,I.hok.fresh (Nat.le_refl _),ha,hb,hx,hy,rfl,rfl⟩,?_,fun b hb'=>?_⟩
  ·refine I.pN (t':=s.toks) (ch:=[z,TO,i1,i2]) (u:=u) (v:=v) (fun b hb'=>hf b (by simp at hb' ⊢;rcases hb' with e | e | e | e <;> simp [e])) (Nat.le_refl _) (fun b o hb' e=>?_) ⟨_,hs'.extBut _ _ zT a5,rfl,_,rfl⟩ ru rv
   simp only[List.mem_cons,List.not_mem_nil,or_false,not_or] at hb'
   exact hs'.extBut b o hb'.1 (hk b o hb'.1 hb'.2.1 hb'.2.2.1 hb'.2.2.2 e)
  ·exact⟨hz',hs'.extBut _ _ D.TIz (hk _ _ D.TIz D.TITO D.TIi1 D.TIi2 hTI),⟨_,_,hs'.extBut _ _ D.TOz a2⟩,a3.extBut hs'.extBut D.i1z,a4.extBut hs'.extBut D.i2z⟩
  ·rw[ag]
   ·exact nf b hb'
   ·have hlt:∃ o,s.heap.get? b=some o:=by
     obtain⟨o1,e1,_⟩:=h1
     obtain⟨o2,e2,_⟩:=h2
     simp only[List.mem_cons,List.not_mem_nil,or_false] at hb'
     rcases hb' with rfl | rfl | rfl | rfl | rfl
     ·exact⟨_,hz⟩
     ·exact⟨_,hTI⟩
     ·exact⟨_,hTO⟩
     ·exact⟨_,e1⟩
     ·exact⟨_,e2⟩
    obtain⟨o,e⟩:=hlt
    exact Nat.ne_of_lt (Heap.lt_size e)
 done:=by
  intro X hP hw hK hc i pins s σ H E I hf st hg
  subst hP hw hK
  obtain⟨xs,ys,ha,hb,hl⟩:=hg
  obtain⟨hz,hTI,⟨a0,b0,hTO⟩,h1,h2⟩:=st
  obtain⟨ia,na,ra,ea,_⟩:=I.lst ha
  obtain⟨ib,nb,rb,eb,_⟩:=I.lst hb
  have nf:∀ b∈[z,TI,TO,i1,i2],H b=none:=fun b hb=>(hf b hb).1
  have ne1:∀ b∈[z,TI,TO,i1,i2],l1≠b:=fun b hb e=>by rw[e,nf b hb] at ha;cases ha
  have ne2:∀ b∈[z,TI,TO,i1,i2],l2≠b:=fun b hb' e=>by rw[e,nf b hb'] at hb;cases hb
  have Z:ZipApart z TI TO i1 i2 l1 l2:=⟨D.TIz,D.TOz,D.i1z,D.i2z,D.TITO,D.TIi1,D.TIi2,D.TOi1,D.TOi2,D.i12,ne1 z (by simp),ne1 TO (by simp),ne1 i1 (by simp),ne1 i2 (by simp),ne2 z (by simp),ne2 TO (by simp),ne2 i1 (by simp),ne2 i2 (by simp)⟩
  have la:=ra.length
  have lb:=rb.length
  refine wpAny_pyNext_zip_end (I.ok.hd hc) Z hz hTI hTO h1 h2 (xs:=ia.toArray) (ys:=ib.toArray) ⟨_,ea,rfl,_,rfl⟩ ⟨_,eb,rfl,_,rfl⟩ ?_ fun h' hk=>⟨rfl,I.moved (t':=s.toks) (ch:=[z,TO,i1,i2]) (fun b hb'=>hf b (by simp at hb' ⊢;rcases hb' with e | e | e | e <;> simp [e])) fun b o hb' e=>?_⟩
  ·rcases hl with hl | hl
   ·left;simp;omega
   ·right;simp;omega
  ·simp only[List.mem_cons,List.not_mem_nil,or_false,not_or] at hb'
   exact hk b o hb'.1 hb'.2.1 hb'.2.2.1 hb'.2.2.2 e
 self:=fun _ _ _ _ _ st h=>wpAny_pyIter_zip st.1 h
section
variable {X:Cx}
def D6 (ta:TA):TI:=fun σ H R=>ta σ H fun vs H1=>∃ (p q:Addr) (xs ys:List V),vs=[.ref p,.ref q]∧H1 p=some (.lst xs)∧H1 q=some (.lst ys)∧R (Itz p q) H1
end
def Ite (a:Addr):It:=
 ⟨fun i H=>∃ xs x,H a=some (.lst xs)∧xs[i]?=some x,
  fun i H v H'=>∃ t xs x,H t=none∧H a=some (.lst xs)∧xs[i]?=some x∧v=.ref t∧H'=upd H t (.tup [.int i,x]),
  fun i H=>∃ xs,H a=some (.lst xs)∧xs.length≤i⟩
def Di (e it l:Addr) (i:Nat) (h:Heap):Prop:=(∃ old,IsEnum h e it i old)∧h.IsListIter it l i
theorem qj {P:Program} {w:World} {K:PySem.W.Frag} {es:List Expr} {kt:Nat} {tp:Pos} (e it l:Addr) (D:e≠it):Turn P w K (.Tuple es kt tp) (Ite l) [e,it] e (Di e it l) where
 mem:=by simp
 obj:=fun i h st b hb=>by
  obtain⟨⟨old,he⟩,⟨o1,e1,_,d1⟩⟩:=st
  simp only[List.mem_cons,List.not_mem_nil,or_false] at hb
  rcases hb with rfl | rfl
  ·exact⟨_,he,fun v q=>by cases q⟩
  ·exact⟨_,e1,fun v q=>by rw[d1] at q;cases q⟩
 keep:=fun i h h' st k=>by
  obtain⟨⟨old,he⟩,h1⟩:=st
  exact⟨⟨old,k e (by simp) _ he⟩,h1.at fun o e=>k it (by simp) o e⟩
 item:=by
  intro X hP hw hK hc i pins s σ H E I hf st hg
  subst hP hw hK
  obtain⟨xs,x,ha,hx⟩:=hg
  obtain⟨⟨old,he⟩,h1⟩:=st
  obtain⟨ia,na,ra,ea,_⟩:=I.lst ha
  have nf:∀ b∈[e,it],H b=none:=fun b hb=>(hf b hb).1
  obtain⟨u,hu,ru⟩:=ra.get hx
  refine wpAny_pyNext_enum_item he h1 (items:=ia.toArray) ⟨_,ea,rfl,_,rfl⟩ (x:=u) (by simpa using hu) D fun h' a1 a2 a3 a4 hk=>?_
  refine⟨_,rfl,wpAny_letOwnedTupleGo_enum a1 fun h2' he' hs'=>?_⟩
  have eT:s.heap.objs.size≠e:=Nat.ne_of_gt (Heap.lt_size he)
  refine⟨.ref s.heap.objs.size,upd H s.heap.objs.size (.tup [.int i,x]),?_,rfl,⟨_,xs,x,I.hok.fresh (Nat.le_refl _),ha,hx,rfl,rfl⟩,?_,fun b hb'=>?_⟩
  ·refine I.pN (t':=s.toks + 1) (ch:=[e,it]) (u:=.int i s.toks) (v:=u) hf (Nat.le_refl _) (fun b o hb' q=>?_) ⟨_,hs'.extBut _ _ eT a3,rfl,_,rfl⟩ ⟨_,rfl⟩ ru
   simp only[List.mem_cons,List.not_mem_nil,or_false,not_or] at hb'
   exact hs'.extBut b o hb'.1 (hk b o hb'.1 hb'.2 q)
  ·exact⟨⟨_,by simpa using he'⟩,a2.extBut hs'.extBut (Ne.symm D)⟩
  ·rw[ag]
   ·exact nf b hb'
   ·have hlt:∃ o,s.heap.get? b=some o:=by
     obtain⟨o1,e1,_⟩:=h1
     simp only[List.mem_cons,List.not_mem_nil,or_false] at hb'
     rcases hb' with rfl | rfl
     ·exact⟨_,he⟩
     ·exact⟨_,e1⟩
    obtain⟨o,q⟩:=hlt
    exact Nat.ne_of_lt (Heap.lt_size q)
 done:=by
  intro X hP hw hK hc i pins s σ H E I hf st hg
  subst hP hw hK
  obtain⟨xs,ha,hl⟩:=hg
  obtain⟨⟨old,he⟩,h1⟩:=st
  obtain⟨ia,na,ra,ea,_⟩:=I.lst ha
  have la:=ra.length
  exact wpAny_pyNext_enum_end (I.ok.hd hc) he h1 (items:=ia.toArray) ⟨_,ea,rfl,_,rfl⟩ (by simp;omega) fun h' hk=>⟨rfl,I.moved (t':=s.toks) (ch:=[it]) (fun b hb'=>hf b (by simp at hb' ⊢;simp [hb'])) fun b o hb' q=>hk b o (fun z=>hb' (by simp [z])) q⟩
 self:=fun _ _ _ _ _ st h=>by obtain⟨⟨old,he⟩,_⟩:=st;exact wpAny_pyIter_enum he h
section
variable {X:Cx}
def wO (ta:TA):TI:=fun σ H R=>ta σ H fun vs H1=>∃ (p:Addr) (xs:List V),vs=[.ref p]∧H1 p=some (.lst xs)∧R (Ite p) H1
theorem uW {a:Expr} {ta:TA} {es:List Expr} {kt:Nat} {tp p pos:Pos} (hg:Gl X "enumerate") (hm:X.mg "enumerate"=none) (ha:PA X [a] ta) (hs:starEach [a] X.env=[(false,eval a X.env)]:=by rfl) :
  PI X (.Tuple es kt tp) (.Call (.Name "enumerate" p) [a] [] pos) (wO ta):=by
 intro pins s σ H R I h
 refine Call_ (iV I hg hm (by decide +kernel:bootBuiltins "enumerate"=some (.type "enumerate")) (PyProof.Rows.callWith_type1 (thn (ha pos pins s σ H _ I h) fun us s1 ⟨vs,H1,I1,r1,q1⟩=>?_) hs rfl))
 obtain⟨l,xs,e,h1,q⟩:=q1
 subst e
 obtain⟨u,rfl,ru⟩:=vals1 r1
 cases ru
 obtain⟨ia,na,ra,ea,_⟩:=I1.lst h1
 refine call_enumerate_1 ea fun h' he hi hsz hk=>wpAny_pyIter_enum he ?_
 have I2:Inv X pins σ H1 { s1 with heap:=h' }:=I1.kept (t':=s1.toks) hk
 refine⟨_,_,_,_,H1,rfl,I2,qj _ _ l (Nat.succ_ne_self _),⟨⟨_,by simpa using he⟩,hi⟩,fun b hb=>?_,q⟩
 have hge:s1.heap.objs.size≤b:=by
  simp only[List.mem_cons,List.not_mem_nil,or_false] at hb
  rcases hb with rfl | rfl <;> omega
 exact I1.oR hge (I1.hok.fresh hge)
def Az (xs:List V) (lo hi st:Option Int):List V:=
 (sliceRange (sliceBounds lo hi st xs.length).1 (sliceBounds lo hi st xs.length).2.1 (sliceBounds lo hi st xs.length).2.2).filterMap (xs[·]?)
def DL (K:PySem.W.Frag) (te:TE) (tl th ts:TO):TE:=fun σ H Q=>te σ H fun x H1=>tl σ H1 fun l H2=>th σ H2 fun u H3=>ts σ H3 fun k H4=>k≠some 0∧∃ a xs,x=.ref a∧SqL K H4 a xs∧∀ p,H4 p=none→Q (.ref p) (upd H4 p (.lst (Az xs l u k)))
end
end L2
namespace L2
open PySem PySem.Spec PyProof.Rows
abbrev Dh (h:Heap) (z TI TO T:Addr) (f:Bool):Prop:=h.get? z=some { cls:=.type "zip",dict:=none,data:=.fields #[rawInt T,.bool f,.bool false,.ref TI,.ref TO],slots:=#[] }
section
variable {prog:Program} {w:World} {A:Around} {E:Value→Shared→Prop} {s:Shared}
end
end L2
namespace L2
open PySem PySem.Spec PyProof.Rows
section
variable {X:Cx} {pins:List (Addr×Obj)} {σ:St} {H:Hp} {s:Shared}
def Dc (H:Hp) (xs ys:List V) (Q:VK):Prop:=∀ (S:Addr) (ts:List Addr) (H':Hp),H S=none→aC H H'→H' S=some (.lst (ts.map V.ref))→ts.length=min xs.length ys.length→
 (∀ (j:Nat) t x y,ts[j]?=some t→xs[j]?=some x→ys[j]?=some y→H' t=some (.tup [x,y]))→(∀ t∈ts,H t=none)→Q (.ref S) H'
def zY (t:TA):TE:=fun σ H Q=>t σ H fun vs H1=>∃ (p q:Addr) (xs ys:List V),vs=[.ref p,.ref q]∧H1 p=some (.lst xs)∧H1 q=some (.lst ys)∧min xs.length ys.length < sizeLine∧Dc H1 xs ys Q
end
end L2
namespace L2
open PySem PySem.Spec PyProof.Rows
section
variable {X:Cx} {C:Addr} {x:Str} {p pos:Pos}
structure Mk0 (K:PySem.W.Frag) (C:Addr):Prop where
 makes:PySem.W.makesIn K C=true
 init:PySem.W.findIn K (.ref C) "__init__"=some (some (.builtin "object.__init__"))
 kp:PySem.W.keepIn K (.ref C)=true
def BW (C:Addr):TE:=fun _ H Q=>∀ x dx,H x=none→H dx=none→dx≠x→Q (.ref x) (upd (upd H dx (.own x)) x (.ins C dx []))
end
end L2
namespace L2
open PySem PySem.Spec PyProof.Rows
def zG (lo c:Int) (n:Nat):It:=⟨fun i _=>i < n,fun i H x H'=>H'=H∧x=.int (lo + i * c),fun i _=>n≤i⟩
def AO (lo hi:Int):Nat:=((hi - lo + 1) / 2).toNat
section
variable {X:Cx} {tg:Expr}
def DC (ta:TA):TI:=fun σ H R=>ta σ H fun vs H1=>∃ i j:Int,vs=[.int i,.int j,.int 2]∧(-1000000≤i∧i≤1000000∧-1000000≤j∧j≤1000000)∧R (zG i 2 (AO i j)) H1
end
end L2
namespace L2
open PySem PySem.Spec PyProof.Rows
end L2
namespace L2
open PySem PySem.Spec PyProof.Rows
def sgn (c:Nat):Str:=⟨#[c]⟩
def Its (x:Str):It:=⟨fun i _=>i < x.cps.size,fun i H v H'=>H'=H∧∃ c,x.cps[i]?=some c∧v=.str (sgn c),fun i _=>x.cps.size≤i⟩
theorem rh {P:Program} {w:World} {K:PySem.W.Frag} {tg:Expr} (it:Addr) (x:Str) (t:Tok):Turn P w K tg (Its x) [it] it (fun i h=>h.IsStrIter it "str_ascii_iterator" x t i) where
 mem:=by simp
 obj:=fun i h st b hb=>by
  obtain rfl:b=it:=by simpa using hb
  obtain⟨o,e,c,d⟩:=st
  exact⟨o,e,fun v z=>by rw[d] at z;cases z⟩
 keep:=fun i h h' st k=>let ⟨o,e,r⟩:=st;⟨o,k it (by simp) o e,r⟩
 item:=by
  intro X hP hw hK hc i pins s σ H E I hf st hg
  subst hP hw hK
  obtain⟨f0,f1,f2,f3,f4,f5⟩:=hf it (by simp)
  have hg':i < x.cps.size:=hg
  refine wpAny_pyNext_ascii_item st (c:=x.cps[i]) (by simp [hg']) fun h' st' sb=>?_
  have I1:Inv X pins σ H { s with heap:=h',toks:=s.toks + 1 }:=I.turned (fun b o hb e=>(sb.2 b hb).trans e) f0 f1 f3 f4 f5
  obtain⟨o,e,c,d⟩:=id st'
  exact⟨_,rfl,p3 (s:={ s with heap:=h',toks:=s.toks + 1 }) e c d (by decide) ⟨.str (sgn x.cps[i]),H,I1,⟨_,rfl⟩,⟨rfl,_,by simp [hg'],rfl⟩,st',fun b hb=>(hf b hb).1⟩⟩
 done:=by
  intro X hP hw hK hc i pins s σ H E I hf st hg
  subst hP hw hK
  obtain⟨f0,f1,f2,f3,f4,f5⟩:=hf it (by simp)
  have hg':x.cps.size≤i:=hg
  exact wpAny_pyNext_ascii_end (I.ok.hd hc) st (by simpa using hg') fun h' eb=>⟨rfl,I.turned (t':=s.toks) (fun b o hb e=>eb b o hb e) f0 f1 f3 f4 f5⟩
 self:=fun _ _ _ _ _ st h=>wpAny_pyIter_striter_ascii st h
section
variable {X:Cx} {tg:Expr}
def AZ (tl:TE):TI:=fun σ H R=>tl σ H fun x H1=>∃ z,x=.str z∧z.cps.all (· < 128)=true∧R (Its z) H1
theorem x9 {l:Expr} {tl:TE} (hl:PE X l tl):PI X tg l (AZ tl):=by
 intro pins s σ H R I h
 refine thn (hl pins s σ H _ I h) fun v s1 ⟨x,H1,I1,r1,q1⟩=>?_
 obtain⟨z,rfl,ha,q⟩:=q1
 obtain⟨t,rfl⟩:=r1
 refine wpAny_pyIter_ascii ha ?_
 refine⟨s1.heap.objs.size,[s1.heap.objs.size],_,_,H1,rfl,I1.kept (t':=s1.toks) fun b o e=>Heap.get?_push_of_some _ e,rh _ z t,⟨_,Heap.get?_push_size _ rfl,rfl,rfl⟩,fun b hb=>?_,q⟩
 obtain rfl:b=s1.heap.objs.size:=by simpa using hb
 exact I1.oR (Nat.le_refl _) (I1.hok.fresh (Nat.le_refl _))
def DB (ta:TA):TI:=fun σ H R=>ta σ H fun vs H1=>∃ i j:Int,vs=[.int i,.int j,.int (-1)]∧(-1000000≤i∧i≤1000000∧-1000000≤j∧j≤1000000)∧R (zG i (-1) (i - j).toNat) H1
end
end L2
namespace L2
open PySem PySem.Spec PyProof.Rows
section
variable {X:Cx} {tg:Expr}
def rR:R2:=fun x y H Q=>∃ z n,x=.str z∧y=.int n∧(n=0∨n=1)∧z.length≤sizeLine∧Q (.str (if n=0 then Str.empty else z)) H
theorem vj:OpR X (binaryOp .Mult) rR:=by
 intro pins s σ H x y v u Q I rx ry h
 obtain⟨z,n,rfl,rfl,hn,hz,q⟩:=h
 obtain⟨t,rfl⟩:=rx
 obtain⟨t',rfl⟩:=ry
 rcases hn with rfl | rfl
 ·refine PySem.P.mul_str_none (by decide) (by decide) ⟨.str Str.empty,H,I.tok _,⟨_,rfl⟩,by simpa using q⟩
 ·refine PySem.P.mul_str (by decide) (fun _ h=>absurd h (by simp)) (fun _ h=>absurd h (by simp)) ?_
  rw[if_neg (by decide),if_pos (by simp)]
  exact⟨.str z,H,I,⟨_,rfl⟩,by simpa using q⟩
def DZ:V→Option Int→Option Int→Hp→VK→Prop:=fun x lo hi H Q=>∃ z,x=.str z∧z.length≤sizeLine∧Q (.str (Txt.slice z lo hi)) H
def tokOf:Value→Option (Int×Tok)
 | .int i t=>some (i,t)
 | _=>none
def Cq:V→List V→Hp→VK→Prop:=fun x vs H Q=>∃ z y,x=.str z∧vs=[.str y]∧Q (.int (Builtin.Str.occurrences z y 0 z.length (z.length + 1)).length) H
def B0:V→List V→Hp→VK→Prop:=fun x vs H Q=>∃ l xs k y,x=.ref l∧vs=[.int k,y]∧H l=some (.lst xs)∧0≤k∧k≤xs.length∧xs.length < sizeLine∧Q .non (upd H l (.lst (xs.take k.toNat++y::xs.drop k.toNat)))
structure TyS (K:PySem.W.Frag):Prop where
 bs:PySem.W.kitOne K (.type "bool") (.type "str")=some false
 is:PySem.W.kitOne K (.type "int") (.type "str")=some false
 ns:PySem.W.kitOne K (.type "NoneType") (.type "str")=some false
 ss:PySem.W.kitOne K (.type "str") (.type "str")=some true
 ls:PySem.W.kitOne K (.type "list") (.type "str")=some false
 ts:PySem.W.kitOne K (.type "tuple") (.type "str")=some false
 ds:PySem.W.kitOne K (.type "dict") (.type "str")=some false
def isS:V→Bool
 | .str _=>true
 | _=>false
theorem tR (F:TyS X.K):bQ X (.builtin "isinstance") (fun xs H Q=>∃ x,xs=[x,.ty "str"]∧Kn H x∧Q (.bl (isS x)) H):=by
 intro pins s σ H xs us Q I r h
 obtain⟨x,rfl,k,q⟩:=h
 cases k with
 | non=>exact ar I r .non F.ns rfl q
 | bl b=>exact ar I r (.bl b) F.bs rfl q
 | int i=>exact ar I r (.int i) F.is rfl q
 | str y=>exact ar I r (.str y) F.ss rfl q
 | lst e=>exact ar I r (.lst e) F.ls rfl q
 | tup e=>exact ar I r (.tup e) F.ts rfl q
 | dK e=>exact ar I r (.dK e) F.ds rfl q
end
end L2
namespace L2
open PySem PySem.Spec PyProof.Rows
section
variable {prog:Program} {w:World} {A:Around} {E:Value→Shared→Prop} {s:Shared}
abbrev Dw (n:Int):Obj:={ cls:=.type "range_iterator",data:=.fields #[rawInt (n - 1),rawInt n,rawInt (-1)] }
end
section
variable {X:Cx} {tg:Expr}
def D7 (ta:TA):TI:=fun σ H R=>ta σ H fun vs H1=>∃ j:Int,vs=[.int j]∧0≤j∧j < 2 ^ 62∧R (zG (j - 1) (-1) j.toNat) H1
end
end L2
namespace L2
open PySem PySem.Spec PyProof.Rows
section
variable {prog:Program} {w:World} {A:Around} {E:Value→Shared→Prop} {s:Shared}
structure ZsD (z TI TO i1 i2 p:Addr):Prop extends qa z TI TO i1 i2 where
 pz:p≠z
 pTO:p≠TO
 pi1:p≠i1
 pi2:p≠i2
end
end L2
namespace L2
open PySem PySem.Spec PyProof.Rows
def Dg (K:PySem.W.Frag) (x:Str) (p:Addr):It:=
 ⟨fun i H=>∃ ys y,SqT K H p ys∧i < x.cps.size∧ys[i]?=some y,
  fun i H v H'=>∃ t y c,H t=none∧(∀ ys,SqT K H p ys→ys[i]?=some y)∧x.cps[i]?=some c∧v=.ref t∧H'=upd H t (.tup [.str (sgn c),y]),
  fun i _=>x.cps.size≤i⟩
def D_ (z TI TO i1 i2:Addr) (x:Str) (tk:Tok) (p:Addr) (i:Nat) (h:Heap):Prop:=IsZip h z TI TO .none∧IsPair h TI (.ref i1) (.ref i2)∧(∃ a b,IsPair h TO a b)∧h.IsStrIter i1 "str_ascii_iterator" x tk i∧h.IsTupleIter i2 p i
section
variable {X:Cx} {pins:List (Addr×Obj)} {σ:St} {H:Hp} {s:Shared}
end
abbrev zs1 (h:Heap) (x:Str) (t:Tok):Heap:=h.push { cls:=.type "str_ascii_iterator",data:=.fields #[.str x t,.int 0 0] }
abbrev zs2 (h:Heap) (x:Str) (t:Tok) (p:Addr):Heap:=(zs1 h x t).push { cls:=.type "tuple_iterator",data:=.fields #[.ref p,.int 0 0] }
abbrev zs3 (h:Heap) (x:Str) (t:Tok) (p:Addr):Heap:=(zs2 h x t p).push { cls:=.type "tuple",data:=.seq #[.ref h.objs.size,.ref (zs1 h x t).objs.size] }
abbrev zs4 (h:Heap) (x:Str) (t:Tok) (p:Addr):Heap:=(zs3 h x t p).push { cls:=.type "tuple",data:=.seq #[.none,.none] }
abbrev zs5 (h:Heap) (x:Str) (t:Tok) (p:Addr):Heap:=(zs4 h x t p).push { cls:=.type "zip",data:=.fields #[.none,.bool false,.bool false,.ref (zs2 h x t p).objs.size,.ref (zs3 h x t p).objs.size] }
end L2
namespace L2
open PySem PySem.Spec PyProof.Rows
section
variable {prog:Program} {w:World} {A:Around} {E:Value→Shared→Prop} {s:Shared}
end
section
variable {X:Cx}
def iZs (K:PySem.W.Frag) (ta:TA):TI:=fun σ H R=>ta σ H fun vs H1=>∃ (x:Str) (q:Addr) (ys:List V),vs=[.str x,.ref q]∧x.cps.all (· < 128)=true∧SqT K H1 q ys∧R (Dg K x q) H1
end
end L2
namespace L2
open PySem PySem.Spec PyProof.Rows
structure ExcAt (n:Nat) (H:Hp) (h:Heap) (e:Addr) (cls:Value) (dx:Option Addr):Prop where
 ge:n≤e
 free:H e=none
 rcd:∃ oe vs,h.get? e=some oe∧oe.cls=cls∧oe.dict=dx∧oe.data=.fields vs∧1 < vs.size∧
  (vs[1]?=some .none∨∃ T oT ts,vs[1]?=some (.ref T)∧n≤T∧T≠e∧H T=none∧h.get? T=some oT∧oT.data=.fields ts∧ts[3]?=some .none)
structure Lv (n:Nat) (H:Hp) (fs:List Addr) (h h':Heap):Prop where
 keep:∀ b o,h.get? b=some o→b∉fs→(b < n∨H b≠none)→h'.get? b=some o
 slot:∀ b o,h.get? b=some o→b∈fs→∃ sl,h'.get? b=some { o with slots:=sl }
 there:∀ b o,h.get? b=some o→∃ o',h'.get? b=some o'
theorem Lv.trans {n:Nat} {H:Hp} {fs:List Addr} {h h1 h2:Heap} (x:Lv n H fs h h1) (y:Lv n H fs h1 h2):Lv n H fs h h2 where
 keep:=fun b o q nf hb=>y.keep b o (x.keep b o q nf hb) nf hb
 slot:=fun b o q hb=>by
  obtain⟨sl,q1⟩:=x.slot b o q hb
  obtain⟨sl2,q2⟩:=y.slot b _ q1 hb
  exact⟨sl2,q2⟩
 there:=fun b o q=>let ⟨_,q1⟩:=x.there b o q;y.there b _ q1
section
variable {M:Model} {A:Around} {E:Value→Shared→Prop} {s:Shared} {base:Heap} {env:Env} {outer:List Env} {L e:Addr} {n:Nat} {H:Hp} {cls:Value} {dx:Option Addr}
theorem nk {oe:Obj} {vs:Array Value} {head:Value} {hadNext:Bool} {Q:Unit→Shared→Prop} (hfr:A.frames=some (env::outer)) (hl:s.heap.FunFrames base (env::outer)) (hf:env.frame=some L)
  (hn:n≤s.heap.objs.size) (hH:∀ b,s.heap.objs.size≤b→H b=none) (ge:n≤e) (fr:H e=none) (he:s.heap.get? e=some oe) (hc:oe.cls=cls) (hx:oe.dict=dx) (hd:oe.data=.fields vs) (hz:1 < vs.size)
  (h:∀ h',Lv n H (frs (env::outer)) s.heap h'→ExcAt n H h' e cls dx→h'.FunFrames base (env::outer)→Q () { s with heap:=h' }) :
  wpAny M A (frameOf env >>= fun fo=>entryPlaceOf L hadNext >>= fun place=>EntryCells.newEntry head fo .none (rawInt L) .none place >>= setField (.ref e) 1) (fun _ s'=>wpAny M A (setFlight (.ref e) none) Q E s') E s:=by
 have ef:e∉frs (env::outer):=fun m=>by
  obtain⟨_,o,ho,nf⟩:=hl.mem m
  rw[he] at ho;cases ho
  exact nf vs hd
 refine wpAny_bind (wpAny_frameOf_fun hfr hl hf fun h1 so=>wpAny_bind (wpAny_entryPlaceOf fun pl hpl=>?_))
 unfold EntryCells.newEntry newFields
 have fits:=hpl.sizeOk5 head (.ref L) .none (rawInt L) .none
 refine wpAny_bind (wpAny_newObj_type ?_ fits)
 generalize hob:({ cls:=.type "traceback",dict:=none,data:=.fields ([head,.ref L,.none,rawInt L,.none]++(if pl.isEmpty then List.replicate 6 Value.none else pl)).toArray }:Obj)=ob
 have hbd:ob.data=.fields ([head,.ref L,.none,rawInt L,.none]++(if pl.isEmpty then List.replicate 6 Value.none else pl)).toArray:=by rw[← hob]
 have bf:ob.isFreed=false:=by rw[← hob];rfl
 have e1:h1.get? e=some oe:=(so.2.1 e ef).trans he
 have e2:=Heap.get?_push_of_some (h:=h1) ob e1
 refine wpAny_setField e2 hd hz ?_
 have ne:h1.objs.size≠e:=Nat.ne_of_gt (Heap.lt_size e1)
 have d3:=Obj.data_mapFields hd (·.setIfInBounds 1 (Value.ref h1.objs.size))
 have e3:=Heap.get?_update_self (Obj.mapFields (·.setIfInBounds 1 (Value.ref h1.objs.size))) e2 (Obj.isFreed_of_fields d3)
 have t3:=(Heap.get?_update_other (h1.push ob) (Obj.mapFields (·.setIfInBounds 1 (Value.ref h1.objs.size))) (Ne.symm ne)).trans (Heap.get?_push_size h1 bf)
 unfold setFlight
 refine wpAny_bind (wpAny_field e3 d3 (x:=.ref h1.objs.size) (by simp [hz]) ?_)
 rw[if_pos (show (Value.ref h1.objs.size != Value.none)=true by simp)]
 have tz:3 < ([head,.ref L,.none,rawInt L,.none]++(if pl.isEmpty then List.replicate 6 Value.none else pl)).toArray.size:=by
  simp only[List.size_toArray,List.length_append,List.length_cons,List.length_nil];omega
 refine wpAny_setField t3 hbd tz (h _ ⟨fun b o q nf hb=>?_,fun b o q hb=>?_,fun b o q=>?_⟩ ⟨ge,fr,?_⟩ ?_)
 ·have q1:h1.get? b=some o:=(so.2.1 b nf).trans q
  have nt:h1.objs.size≠b:=Nat.ne_of_gt (Heap.lt_size q1)
  have nb:e≠b:=fun z=>by
   subst z
   rcases hb with w | w
   ·exact Nat.lt_irrefl _ (Nat.lt_of_lt_of_le w ge)
   ·exact w fr
  rw[Heap.get?_update_other _ _ nt,Heap.get?_update_other _ _ nb]
  exact Heap.get?_push_of_some _ q1
 ·obtain⟨sl,q1⟩:=so.2.2 b o q
  have nt:h1.objs.size≠b:=Nat.ne_of_gt (Heap.lt_size q1)
  have nb:e≠b:=fun z=>ef (by rw[z];exact hb)
  refine⟨sl,?_⟩
  rw[Heap.get?_update_other _ _ nt,Heap.get?_update_other _ _ nb]
  exact Heap.get?_push_of_some _ q1
 ·obtain⟨sl,q1⟩:=so.2.2 b o q
  have nt:h1.objs.size≠b:=Nat.ne_of_gt (Heap.lt_size q1)
  by_cases z:b=e
  ·subst z
   exact⟨_,by rw[Heap.get?_update_other _ _ nt];exact e3⟩
  ·exact⟨_,by rw[Heap.get?_update_other _ _ nt,Heap.get?_update_other _ _ (Ne.symm z)];exact Heap.get?_push_of_some _ q1⟩
 ·have t4:=Heap.get?_update_self (Obj.mapFields (·.setIfInBounds 3 ((none:Option Addr).elim Value.none fun f=>rawInt f))) t3 (Obj.isFreed_of_fields (Obj.data_mapFields hbd _))
  refine⟨_,_,by rw[Heap.get?_update_other _ _ ne];exact e3,by rw[Obj.cls_mapFields];exact hc,?_,d3,by simpa using hz,.inr ⟨h1.objs.size,_,_,by simp [hz],by rw[so.1];exact hn,ne,hH _ (by rw[so.1];exact Nat.le_refl _),t4,Obj.data_mapFields hbd _,?_⟩⟩
  ·rw[← hx]
   obtain⟨c0,d0,dt0,s0⟩:=oe
   cases dt0 <;> rfl
  ·rw[Array.getElem?_setIfInBounds_self_of_lt tz];rfl
 ·refine hl.of_keeps fun b o q nf=>?_
  obtain⟨sl,q1⟩:=so.2.2 b o q
  have nt:h1.objs.size≠b:=Nat.ne_of_gt (Heap.lt_size q1)
  have nb:e≠b:=fun z=>by
   subst z
   rw[he] at q;cases q
   exact nf vs hd
  exact⟨{ o with slots:=sl },by rw[Heap.get?_update_other _ _ nt,Heap.get?_update_other _ _ nb];exact Heap.get?_push_of_some _ q1,rfl⟩
theorem m_ {Q:Unit→Shared→Prop} (hfr:A.frames=some (env::outer)) (hl:s.heap.FunFrames base (env::outer)) (hf:env.frame=some L) (hn:n≤s.heap.objs.size) (hH:∀ b,s.heap.objs.size≤b→H b=none)
  (x:ExcAt n H s.heap e cls dx) (h:∀ h',Lv n H (frs (env::outer)) s.heap h'→ExcAt n H h' e cls dx→h'.FunFrames base (env::outer)→Q () { s with heap:=h' }):wpAny M A (noteFrame (.ref e) env) (fun _ s'=>wpAny M A (setFlight (.ref e) none) Q E s') E s:=by
 obtain⟨ge,fr,oe,vs,he,hc,hx,hd,hz,tb⟩:=x
 rcases tb with h1 | ⟨T,oT,ts,h1,gT,nT,fT,hT,hdT,h3⟩
 ·unfold noteFrame
  simp only[hf]
  refine wpAny_bind (wpAny_field he hd h1 ?_)
  rw[if_neg (by decide)]
  exact nk hfr hl hf hn hH ge fr he hc hx hd hz h
 ·unfold noteFrame
  simp only[hf]
  refine wpAny_bind (wpAny_field he hd h1 ?_)
  rw[if_pos (show (Value.ref T != Value.none)=true by simp)]
  refine wpAny_bind (wpAny_field hT hdT h3 ?_)
  rw[if_neg (show ¬ ((Value.none == rawInt L)=true) by simp [rawInt])]
  have three:=(Array.getElem?_eq_some_iff.mp h3).1
  refine wpAny_bind (wpAny_setField hT hdT three ?_)
  have ot:∀ b,b≠T→(s.heap.update T (Obj.mapFields (·.setIfInBounds 3 Value.none))).get? b=s.heap.get? b:=fun b hb=>Heap.get?_update_other _ _ (Ne.symm hb)
  have tT:=Heap.get?_update_self (Obj.mapFields (·.setIfInBounds 3 Value.none)) hT (Obj.isFreed_of_fields (Obj.data_mapFields hdT _))
  have nr:∀ b o,s.heap.get? b=some o→(∀ vs,o.data≠.fields vs)→b≠T:=fun b o hb nf z=>by
   rw[z,hT] at hb;cases hb
   exact nf ts hdT
  have sz:(s.heap.update T (Obj.mapFields (·.setIfInBounds 3 Value.none))).objs.size=s.heap.objs.size:=Heap.size_after_update ..
  have fT':T∉frs (env::outer):=fun m=>by
   obtain⟨_,o,ho,nf⟩:=hl.mem m
   rw[hT] at ho;cases ho
   exact nf ts hdT
  refine nk (s:={ s with heap:=s.heap.update T (Obj.mapFields (·.setIfInBounds 3 Value.none)) }) hfr (hl.of_keeps fun b o hb nf=>⟨o,(ot b (nr b o hb nf)).trans hb,rfl⟩) hf (by show n≤_;rw[sz];exact hn) (fun b hb=>hH b (by have hb:_≤b:=hb;rw[sz] at hb;exact hb)) ge fr ((ot e (Ne.symm nT)).trans he) hc hx hd hz fun h' lv ex ff=>h h' ?_ ex ff
  refine Lv.trans (h1:=s.heap.update T (Obj.mapFields (·.setIfInBounds 3 Value.none))) ⟨fun b o q nf hb=>(ot b fun z=>?_).trans q,fun b o q hb=>⟨o.slots,(ot b fun z=>fT' (by rw[← z];exact hb)).trans q⟩,fun b o q=>?_⟩ lv
  ·subst z
   rcases hb with w | w
   ·exact Nat.lt_irrefl _ (Nat.lt_of_lt_of_le w gT)
   ·exact w fT
  ·by_cases z:b=T
   ·subst z;exact⟨_,tT⟩
   ·exact⟨o,(ot b z).trans q⟩
theorem sU {Q:Unit→Shared→Prop} (hfr:A.frames=some (env::outer)) (hl:s.heap.FunFrames base (env::outer)) (hf:env.frame=some L) (hn:n≤s.heap.objs.size) (hH:∀ b,s.heap.objs.size≤b→H b=none)
  (x:ExcAt n H s.heap e cls dx) (h:∀ h',Lv n H (frs (env::outer)) s.heap h'→ExcAt n H h' e cls dx→h'.FunFrames base (env::outer)→Q () { s with heap:=h' }):wpAny M A (leaving env (.ref e)) Q E s:=by
 unfold leaving
 exact wpAny_bind (m_ hfr hl hf hn hH x h)
def CX1 (P:Program) (w:World) (base:Heap):CXT:=fun outer H s E ev s'=>∃ e cls dx H',ev=.ref e∧s'.os=s.os∧AllBare s'.gens∧Un (frs outer) [] H H' s.heap s'.heap∧HOk P w H' s'.heap∧s'.heap.FunFrames base outer∧ExcAt s.heap.objs.size H' s'.heap e cls dx∧E cls dx H'
end
end L2
namespace L2
open PySem PySem.Spec PyProof.Rows
section
variable {P:Program} {w:World} {K:PySem.W.Frag} {mg:Str→Option Value} {base:Heap} {N:List Str} {qual:Str} {scope:Scope} {f:Addr} {cd:Value} {A:Around} {outer:List Env} {s:Shared} {H:Hp} {E:XK}
theorem xo {CX:CXT} {pins:List (Addr×Obj)} {σ:St} {H1 H':Hp} {s1 s':Shared} {e:Addr} {cls:Value} {dx:Option Addr} (I:Inv (i5 (CX1 P w base) P w K mg base N qual scope f cd A outer s H E) pins σ H1 s1) (os:s'.os=s1.os) (bare:AllBare s'.gens)
  (un:Un (frs (envOfC qual scope s.heap.objs.size f cd::outer)) [] H1 H' s1.heap s'.heap) (hok:HOk P w H' s'.heap) (ff:s'.heap.FunFrames base (envOfC qual scope s.heap.objs.size f cd::outer)) (x':ExcAt s.heap.objs.size H' s'.heap e cls dx) (hE:E cls dx H') :
  (i5 (CX1 P w base) P w K mg base N qual scope f cd A outer s H E).xe (.ref e) s':=by
 have sz1:s.heap.objs.size≤s1.heap.objs.size:=I.sz
 have hL:(envOfC qual scope s.heap.objs.size f cd).frame=some s.heap.objs.size:=rfl
 have fr':∀ b,b∈frs (envOfC qual scope s.heap.objs.size f cd::outer)→b=s.heap.objs.size∨b∈frs outer:=fun b hb=>by
  have hb:b∈s.heap.objs.size::frs outer:=hb
  exact List.mem_cons.mp hb
 have old:∀ b o,s.heap.get? b=some o→b < s.heap.objs.size:=fun b o q=>Heap.lt_size q
 have Lnot:∀ b,b < s.heap.objs.size→b∉frs outer→b∉frs (envOfC qual scope s.heap.objs.size f cd::outer):=fun b lt nf m=>by
  rcases fr' b m with z | z
  ·rw[z] at lt;exact Nat.lt_irrefl _ lt
  ·exact nf z
 have base1:Un (frs outer) [] H H1 s.heap s1.heap:=I.base
 have hfree:∀ b,b∈frs (envOfC qual scope s.heap.objs.size f cd::outer)→H' b=none:=fun b hb=>by
  have n1:H1 b=none:=by
   rcases fr' b hb with z | z
   ·subst z;exact I.free
   ·obtain⟨_,o,ho,_⟩:=I.ok.eZ.mem z
    exact base1.free b o ho (I.ok.frf b z) (by simp)
  obtain⟨_,o,ho,_⟩:=ff.mem hb
  have:∃ o1,s1.heap.get? b=some o1:=by
   rcases fr' b hb with z | z
   ·obtain⟨m,⟨o1,_,_,ho1,_⟩,_⟩:=I.loc
    exact⟨o1,by rw[z];exact ho1⟩
   ·obtain⟨_,o,ho,_⟩:=I.ok.eZ.mem z
    exact base1.there b o ho (by simp)
  obtain⟨o1,ho1⟩:=this
  exact un.free b o1 ho1 n1 (by simp)
 have sz2:s.heap.objs.size≤s'.heap.objs.size:=by
  obtain⟨m,⟨o1,_,_,ho1,_⟩,_⟩:=I.loc
  obtain⟨o2,ho2⟩:=un.there _ o1 ho1 (by simp)
  exact Nat.le_of_lt (Heap.lt_size (a:=s.heap.objs.size) ho2)
 refine sU (n:=s.heap.objs.size) I.ok.frames ff hL sz2 (fun b hb=>hok.fresh hb) x' fun h' lv ex ff'=>⟨e,cls,dx,H',rfl,os.trans I.os,bare,?_,?_,ff'.2.2,ex,hE⟩
 ·have k1:∀ b o,s.heap.get? b=some o→H b=none→b∉frs outer→s'.heap.get? b=some o∧H' b=none:=fun b o q nn nf=>by
   have q1:=base1.keep b o q nn nf (by simp)
   have n1:=base1.free b o q nn (by simp)
   exact⟨un.keep b o q1 n1 (Lnot b (old b o q) nf) (by simp),un.free b o q1 n1 (by simp)⟩
  refine⟨fun b o q nn nf _=>?_,fun b o q nn hb _=>?_,fun b o q nn _=>?_,fun b o q _=>?_,fun b xs q=>un.tups b xs (base1.tups b xs q),fun b o u q=>un.frzs b o u (base1.frzs b o u q),fun b ps q=>?_⟩
  ·exact lv.keep b o (k1 b o q nn nf).1 (Lnot b (old b o q) nf) (.inl (old b o q))
  ·obtain⟨sl,q1⟩:=base1.slot b o q nn hb (by simp)
   have n1:=base1.free b o q nn (by simp)
   have hb':b∈frs (envOfC qual scope s.heap.objs.size f cd::outer):=List.mem_cons_of_mem s.heap.objs.size hb
   obtain⟨sl2,q2⟩:=un.slot b _ q1 n1 hb' (by simp)
   obtain⟨sl3,q3⟩:=lv.slot b _ q2 hb'
   exact⟨sl3,q3⟩
  ·obtain⟨o1,q1⟩:=base1.there b o q (by simp)
   exact un.free b o1 q1 (base1.free b o q nn (by simp)) (by simp)
  ·obtain⟨o1,q1⟩:=base1.there b o q (by simp)
   obtain⟨o2,q2⟩:=un.there b o1 q1 (by simp)
   exact lv.there b o2 q2
  ·obtain⟨m1,q1⟩:=base1.tbls b ps q
   obtain⟨m2,q2⟩:=un.tbls b _ q1
   exact⟨m1++m2,by rw[q2,Array.append_assoc]⟩
 ·intro b o q
  refine(hok b o q).iP (fun c u hc g=>?_) (fun _ z=>z) fun _ _ z=>z
  have hn:H' c≠none:=by
   rcases hc with z | z
   ·rw[z,q];simp
   ·rw[z];simp
  exact lv.keep c u g (fun m=>hn (hfree c m)) (.inr hn)
end
end L2
namespace L2
open PySem PySem.Spec PyProof.Rows PySem.W
def cW (K:Frag) (C:Addr) (B newId:String):Bool:=match K.lookup C with
 | some ⟨oc,_,.cls cd,sl⟩=>oc == .type "type" && !cd.hasDel && (sl.toList[4]?).join == some (.builtin newId) && !cd.mro.isEmpty && cd.mro.contains (.ref C) && cd.mro.contains (.type B) && !cd.mro.contains (.type "AttributeError") && !cd.mro.contains (.type "NameError") &&
   cd.mro.contains (.type "BaseException") && specialIn K (.ref C) "__call__" == some (some (.builtin "type.__call__")) && instIn K (.ref C) (.type "type") == some true
 | _=>false
structure cz (M:Model) (h:Heap) (C:Addr) (B newId:String):Prop where
 obj:∃ oc od cd sl,h.get? C=some ⟨oc,od,.cls cd,sl⟩∧oc=.type "type"∧cd.hasDel=false∧cd.mro.isEmpty=false
 made:Looks M h (Bind.madeBy (.ref C)) (some newId)
 base:Looks M h (Bind.staticBase (.ref C)) (.ref C)
 under:∀ b r,(b,r)∈[(Value.ref C,true),(.type B,true),(.type "BaseException",true),(.type "AttributeError",false),(.type "NameError",false)]→Looks M h (isSubtype (.ref C) b) r
 dunder:Looks M h (specialOf (.ref C) ("__call__":Str)) (some (Value.builtin "type.__call__"))
 isTy:Looks M h (isInstance (.ref C) (.type "type")) true
theorem iK {K:Frag} {M:Model} {h:Heap} (X:K.In h) {C:Addr} {B newId:String} (e:cW K C B newId=true):cz M h C B newId:=by
 unfold cW at e
 split at e
 case h_2=>cases e
 rename_i oc od cd sl ho
 rw[Bool.and_eq_true,Bool.and_eq_true,Bool.and_eq_true,Bool.and_eq_true,Bool.and_eq_true,Bool.and_eq_true,Bool.and_eq_true,Bool.and_eq_true,Bool.and_eq_true,Bool.and_eq_true] at e
 obtain⟨⟨⟨⟨⟨⟨⟨⟨⟨⟨e1,e2⟩,e3⟩,e4⟩,e5⟩,e6⟩,eA⟩,eN⟩,eB⟩,e7⟩,e8⟩:=e
 have full:cd.mro.isEmpty=false:=by simpa using e4
 have there:clsIn K C=some cd:=by unfold clsIn;rw[ho]
 have line:Looks M h (mroOf (.ref C)) cd.mro:=Looks.andThen (looks_clsIn X there) .now
 have four:sl[4]?.join=some (.builtin newId):=by simpa using e3
 have maker:Looks M h (Bind.madeBy (.ref C)) (some newId):=fun A Q E s k q=>by
  have hC:=k C _ (X C _ ho)
  obtain⟨h2,g,d,t,os⟩:=s
  unfold Bind.madeBy
  refine wpAny_bind (line A _ E _ k ?_)
  match hm:cd.mro with
  | []=>rw[hm] at full;cases full
  | c::l=>
   rw[List.forIn_cons]
   have slot:∀ {Q':Option Value→Shared→Prop},Q' (some (.builtin newId)) ⟨h2,g,d,t,os⟩→wpAny M A (slotAt C 4) Q' E ⟨h2,g,d,t,os⟩:=fun {Q'} z=>by
    rw[← four] at z
    exact wpAny_bind (wpAny_loadPart_at hC (wpAny_pure z))
   refine wpAny_bind (wpAny_bind (wpAny_bind (slot ?_)))
   repeat (with_reducible refine wpAny_pure ?_)
   exact q
 have stat:Looks M h (Bind.staticBase (.ref C)) (.ref C):=fun A Q E s k q=>by
  unfold Bind.staticBase
  refine wpAny_bind (line A _ E s k ?_)
  match hm:cd.mro with
  | []=>rw[hm] at full;cases full
  | c::l=>
   rw[List.forIn_cons]
   refine wpAny_bind (wpAny_bind (wpAny_bind (maker A _ E s k ?_)))
   rw[if_pos (show (some newId).isSome=true from rfl)]
   repeat (with_reducible refine wpAny_pure ?_)
   exact q
 have sub:∀ b r,cd.mro.contains b=r→Looks M h (isSubtype (.ref C) b) r:=fun b r q=>looks_mroIn X (by rw[mroIn,there,Option.bind_some,full,q];rfl)
 refine⟨⟨oc,od,cd,sl,X C _ ho,by simpa using e1,by simpa using e2,full⟩,maker,stat,fun b r hb=>sub b r ?_,looks_specialIn X (by simpa using e7),looks_instIn X (by simpa using e8)⟩
 simp only[List.mem_cons,Prod.mk.injEq,List.not_mem_nil,or_false] at hb
 rcases hb with ⟨rfl,rfl⟩ | ⟨rfl,rfl⟩ | ⟨rfl,rfl⟩ | ⟨rfl,rfl⟩ | ⟨rfl,rfl⟩
 ·exact e5
 ·exact e6
 ·exact eB
 ·simpa using eA
 ·simpa using eN
theorem cz.self {M:Model} {h:Heap} {C:Addr} {B newId:String} (y:cz M h C B newId):Looks M h (isSubtype (.ref C) (.ref C)) true:=y.under _ _ (by simp)
theorem cz.top {M:Model} {h:Heap} {C:Addr} {B newId:String} (y:cz M h C B newId):Looks M h (isSubtype (.ref C) (.type B)) true:=y.under _ _ (by simp)
theorem cz.exc {M:Model} {h:Heap} {C:Addr} {B newId:String} (y:cz M h C B newId):Looks M h (isSubtype (.ref C) (.type "BaseException")) true:=y.under _ _ (by simp)
theorem cz.noA {M:Model} {h:Heap} {C:Addr} {B newId:String} (y:cz M h C B newId):Looks M h (isSubtype (.ref C) (.type "AttributeError")) false:=y.under _ _ (by simp)
theorem cz.noN {M:Model} {h:Heap} {C:Addr} {B newId:String} (y:cz M h C B newId):Looks M h (isSubtype (.ref C) (.type "NameError")) false:=y.under _ _ (by simp)
abbrev cS (vs:List Value):Obj:={ cls:=.type "tuple",data:=.seq vs.toArray }
abbrev eJ (C t:Addr):Obj:={ cls:=.ref C,data:=.fields #[.ref t,.none,.none,.none,.bool false,.none] }
theorem zK (C:Addr) (rest:List Value):Bind.checkArgs "ValueError.__new__" ⟨.any,"ValueError","ValueError",.cls,[⟨"args",.varPos,false⟩,⟨"kwargs",.varKw,false⟩]⟩ ⟨.ref C::rest,[]⟩=pure ():=by kernel_rfl
section
variable {prog:Program} {w:World} {A:Around} {K:Frag} {C:Addr} {R:Result→Shared→Prop} {h:Heap} {g:Array GenState} {d:Drawn} {t:Nat} {os:OsState}
theorem B5 {rest:List Value} (Y:cz (model prog w) h C "ValueError" "ValueError.__new__") (hz:rest.length≤sizeLine)
  (hq:R (.ok (.ret (.ref (h.objs.size + 1)))) ⟨(h.push (cS rest)).push (eJ C h.objs.size),g,d,t,os⟩) :
  codeAny (model prog w) A (.call (.builtin "ValueError.__new__") ⟨.ref C::rest,[]⟩) R ⟨h,g,d,t,os⟩:=by
 have top:=Y.top
 have noA:=Y.noA
 have noN:=Y.noN
 have self:=Y.self
 obtain⟨⟨oc,od,cd,sl,hC,e1,e2,e4⟩,made,base,_,dunder,isTy⟩:=Y
 have F:=PySem.F.excBase_ValueError
 have hends:=F.ends
 have here:Looks (model prog w) h (Bind.madeHere "ValueError.__new__" (.ref C)) ():=base.andThen (made.andThen (Looks.of_pure (by simp only[Option.map_some,bne_self_eq_false,Bool.false_eq_true,if_false])))
 have here2:Looks (model prog w) h (Bind.madeHere "BaseException.__new__" (.ref C)) ():=base.andThen (made.andThen (Looks.of_pure (by simp only[Option.map_some,F.canon,bne_self_eq_false,Bool.false_eq_true,if_false])))
 have calm:(Code.builtin "ValueError.__new__" ⟨.ref C::rest,[]⟩).quiet=true:=Code.quiet_builtin _ F.quiet
 refine codeAny_call_builtin_code calm ?_
 unfold checkBuiltinCall
 simp only[F.newRow,F.newSplit,F.newKind,zK]
 repeat (first | lk | simp only[bne_self_eq_false,if_false,Bool.false_eq_true])
 refine codeAny_builtinAt F.entry ?_
 unfold Builtin.«BaseException.__new__»
 refine PySem.wpAt_bind ?_
 show PySem.wpAt _ _ _ (stack >>= _) _ _ _
 refine PySem.wpAt_bind (PySem.wpAt_stack fun p below=>PySem.wpAt_of_wpAny ?_)
 wp_walk
 refine PySem.wpAt_of_wpAny ?_
 rw[F.owner]
 repeat (first | simp only[bne_self_eq_false,Bool.false_eq_true,if_false] | lk | wp_step)
 refine wpAny_load (Heap.get?_push_of_some _ (Heap.get?_push_of_some _ hC)) ?_
 dsimp only
 rw[e2]
 refine wpAny_pure ?_
 rw[if_neg (by decide)]
 refine wpAny_pure (wpAny_pure ?_)
 show R _ _
 rw[Heap.size_push]
 exact hq
theorem nN {rest:List Value} {init:Value} (Y:cz (model prog w) h C "ValueError" "ValueError.__new__") (hz:rest.length≤sizeLine) (hi:Looks (model prog w) h (typeLookup (.ref C) "__init__") (some init))
  (hb:∀ self,Looks (model prog w) h (bindSpecial init self) (init,[self]))
  (hq:codeAny (model prog w) (A.under (.builtin "type.__call__" ⟨.ref C::rest,[]⟩)) (.call init ⟨.ref (h.objs.size + 1)::rest,[]⟩) (InitBack (h.objs.size + 1) R) ⟨(h.push (cS rest)).push (eJ C h.objs.size),g,d,t,os⟩) :
  codeAny (model prog w) A (.call (.ref C) ⟨rest,[]⟩) R ⟨h,g,d,t,os⟩:=by
 have Y':=Y
 have self:=Y.self
 obtain⟨⟨oc,od,cd,sl,hC,e1,e2,e4⟩,made,base,_,dunder,isTy⟩:=Y
 refine codeAny_of_tree ?_
 show wpAny _ _ (callAny (.ref C) _) _ _ _
 refine nd_load hC ?_
 show wpAny _ _ (callAny.viaDunder (.ref C) _) _ _ _
 unfold callAny.viaDunder
 refine wpAny_bind (dunder.at ?_)
 dsimp only
 rw[tc_bind]
 refine wpAny_bind (wpAny_pure (wpAny_bind (wpAny_pure ?_)))
 refine wpAny_pure (a:=Fin.again (.call (.builtin "type.__call__") ⟨.ref C::rest,[]⟩)) (And.intro rfl ?_)
 have calm:(Code.builtin "type.__call__" ⟨.ref C::rest,[]⟩).quiet=true:=Code.quiet_builtin _ (by decide +kernel)
 refine codeAny_call_builtin_at calm entry_typeCall (check_slot tc_kind tc_split isTy (tc_args _ _ _) ?_)
 unfold Builtin.«type.__call__»
 have line:Looks (model prog w) h (mroOf (.ref C)) cd.mro:=Looks.andThen (Looks.andThen (Looks.ld (part:=none) hC) .now) .now
 repeat (first | with_reducible refine wpAny_call ?_ | lk | simp only[Bool.false_eq_true,if_false,e4])
 refine B5 Y' hz ?_
 have k:∀ b o,h.get? b=some o→((h.push (cS rest)).push (eJ C h.objs.size)).get? b=some o:=fun b o e=>Heap.get?_push_of_some _ (Heap.get?_push_of_some _ e)
 have hx:((h.push (cS rest)).push (eJ C h.objs.size)).get? (h.objs.size + 1)=some (eJ C h.objs.size):=by heap_get
 have t1:Looks (model prog w) ((h.push (cS rest)).push (eJ C h.objs.size)) (typeOf (.ref (h.objs.size + 1))) (.ref C):=(Looks.ld hx).andThen .now
 have s1:=self.keeps k
 have i1:=hi.keeps k
 have b1:=(hb (.ref (h.objs.size + 1))).keeps k
 unfold isInstance callSpecial? specialOf
 repeat (first | with_reducible refine wpAny_call ?_ | lk)
 refine codeAny_mono hq fun r s' z=>?_
 cases r with
 | error e=>exact z
 | ok fl=>
  cases fl with
  | ret v=>
   obtain⟨hv,z2⟩:=z
   subst hv
   exact wpAny_pure (wpAny_pure z2)
  | next=>exact z.elim
  | brk=>exact z.elim
  | cont=>exact z.elim
theorem qf {s:Shared} {f:Addr} {vs:List Value} (X:K.In s.heap) (hm:cW K C "ValueError" "ValueError.__new__"=true) (hz:vs.length≤sizeLine)
  (hi:findIn K (.ref C) "__init__"=some (some (.ref f))) (hf:typeIn K (.ref f)=some (.type "function"))
  (h:codeAny (model prog w) (A.under (.builtin "type.__call__" ⟨.ref C::vs,[]⟩)) (.call (.ref f) ⟨.ref (s.heap.objs.size + 1)::vs,[]⟩) (InitBack (s.heap.objs.size + 1) R)
   { s with heap:=(s.heap.push (cS vs)).push (eJ C s.heap.objs.size) }) :
  codeAny (model prog w) A (.call (.ref C) ⟨vs,[]⟩) R s:=by
 obtain⟨hh,g,d,t,os⟩:=s
 exact nN (iK X hm) hz (looks_findIn X hi) (fun self=>bind_fn X self hf) h
end
end L2
namespace L2
open PySem PySem.Spec PyProof.Rows
def cC (e C:Addr) (dx:Option Addr):HO:=HO.ext fun h=>∃ t,h.get? e=some { cls:=.ref C,dict:=dx,data:=.fields #[.ref t,.none,.none,.none,.bool false,.none] }
def del (H:Hp) (a:Addr):Hp:=fun b=>if b=a then none else H b
theorem iz {H:Hp} {a:Addr}:del H a a=none:=by unfold del;rw[if_pos rfl]
theorem fS {H:Hp} {a b:Addr} (h:b≠a):del H a b=H b:=by unfold del;rw[if_neg h]
theorem mf {P:Program} {w:World} {H:Hp} {h:Heap} {e C t:Addr} {dx:Option Addr} (q:h.get? e=some { cls:=.ref C,dict:=dx,data:=.fields #[.ref t,.none,.none,.none,.bool false,.none] }):bN P w H h e (cC e C dx):=
 ⟨⟨t,q⟩,⟨_,q⟩,fun _ _ ⟨t,q⟩ k=>⟨t,k _ q⟩⟩
theorem fQ {P:Program} {w:World} {H:Hp} {h:Heap} {e C:Addr} {dx:Option Addr} (ok:HOk P w H h) (q:H e=some (cC e C dx)):∃ t,h.get? e=some { cls:=.ref C,dict:=dx,data:=.fields #[.ref t,.none,.none,.none,.bool false,.none] }:=
 (show bN P w H h e (cC e C dx) from ok e _ q).1
theorem HOk.del {P:Program} {w:World} {H:Hp} {h:Heap} {e C:Addr} {dx:Option Addr} (ok:HOk P w H h) (q:H e=some (cC e C dx)):HOk P w (del H e) h:=fun b u hb=>by
 have ne:b≠e:=fun z=>by rw[z,iz] at hb;cases hb
 rw[fS ne] at hb
 refine(ok b u hb).iP (fun _ _ _ r=>r) (fun c r=>?_) fun c xs r=>?_
 ·rw[fS (mZ r q (by intro z;cases z))];exact r
 ·rw[fS (mZ r q (by intro z;cases z))];exact r
theorem Un.del {fs:List Addr} {H:Hp} {h:Heap} {e C:Addr} {dx:Option Addr} (q:H e=some (cC e C dx)):Un fs [] H (del H e) h h where
 keep:=fun b o g _ _ _=>g
 slot:=fun b o g _ _ _=>⟨o.slots,g⟩
 free:=fun b o g n _=>by
  by_cases z:b=e
  ·rw[z,iz]
  ·rw[fS z];exact n
 there:=fun b o g _=>⟨o,g⟩
 tups:=fun b xs r=>by rw[fS (mZ r q (by intro z;cases z))];exact r
 frzs:=fun b o u r=>by rw[fS (mZ r q (by intro z;cases z))];exact r
 tbls:=fun b ps r=>⟨#[],by rw[fS (mZ r q (by intro z;cases z)),Array.append_empty];exact r⟩
section
variable {P:Program} {w:World} {K:PySem.W.Frag} {mg:Str→Option Value} {base:Heap} {N:List Str} {qual:Str} {scope:Scope} {f:Addr} {cd:Value} {A:Around} {outer:List Env} {s:Shared} {H:Hp} {E:XK}
theorem zJ {pins:List (Addr×Obj)} {σ:St} {H2:Hp} {s':Shared} {e C:Addr} {dx:Option Addr} (I:Inv (i5 (CX1 P w base) P w K mg base N qual scope f cd A outer s H E) pins σ H2 s')
  (ge:s.heap.objs.size≤e) (q:H2 e=some (cC e C dx)) (hE:E (.ref C) dx (del H2 e)):(i5 (CX1 P w base) P w K mg base N qual scope f cd A outer s H E).xe (.ref e) s':=by
 obtain⟨t,g⟩:=fQ I.hok q
 refine xo (CX:=CX0) I rfl I.bare (Un.del q) (HOk.del I.hok q) ?_ ⟨ge,iz,_,_,g,rfl,rfl,rfl,(show 1 < 6 by decide),.inl rfl⟩ hE
 exact I.stack
end
def Raises (X:Cx) (E:XK):Prop:=∀ (pins:List (Addr×Obj)) (σ:St) (H2:Hp) (s':Shared) (e C:Addr) (dx:Option Addr),Inv X pins σ H2 s'→X.s₀.heap.objs.size≤e→H2 e=some (cC e C dx)→E (.ref C) dx (del H2 e)→X.xe (.ref e) s'
theorem uK {P:Program} {w:World} {K:PySem.W.Frag} {mg:Str→Option Value} {base:Heap} {N:List Str} {qual:Str} {scope:Scope} {f:Addr} {cd:Value} {A:Around} {outer:List Env} {s:Shared} {H:Hp} {E:XK} :
  Raises (i5 (CX1 P w base) P w K mg base N qual scope f cd A outer s H E) E:=fun _ _ _ _ _ _ _ I ge q hE=>zJ I ge q hE
structure XMk (K:PySem.W.Frag) (C f:Addr):Prop where
 makes:cW K C "ValueError" "ValueError.__new__"=true
 init:PySem.W.findIn K (.ref C) "__init__"=some (some (.ref f))
 fn:PySem.W.isFn K (.ref f)=true
 kp:PySem.W.keepIn K (.ref C)=true
section
variable {X:Cx} {CX:CXT} {k:Nat} {f C:Addr} {fd:FuncData} {ps:List Str} {sp:Sp} {dvs:List V} {ds:List Value} {E E':XK} {x m:Str} {p pos apos cpos:Pos} {e o:Expr} {es:List Expr} {ta:TE} {t:TA}
theorem qs {pins:List (Addr×Obj)} {σ:St} {H:Hp} {s:Shared} {Q:Addr→Hp→Prop} {us:List Value} {vs:List V} (M:XMk X.K C f) (F:aX X.prog X.w X.K X.mg X.base CX k f fd ps sp) (hr:bP (k + 1) X.A) (hb:Binds X.K fd ps ds) (hd:Vals dvs ds)
  (hx:Passes CX X E') (hz:ps.length≤sizeLine) (I:Inv X pins σ H s) (r:Vals vs us)
  (h:∀ x,H x=none→sp (.ref x::(vs++dvs)) (upd H x (cC x C none)) (fun v H2=>v=.non∧Q x H2) E') :
  wpAny (model X.prog X.w) X.A (call (.ref C) us) (fun u s'=>∃ e H',u=.ref e∧X.s₀.heap.objs.size≤e∧Inv X pins σ H' s'∧Q e H') X.xe s:=by
 have hq:=h (s.heap.objs.size + 1) (I.hok.fresh (Nat.le_succ _))
 have I1:=I.kept (t':=s.toks) (h':=s.heap.push (cS us)) fun b u e=>Heap.get?_push_of_some _ e
 have I2:Inv X pins σ (upd H (s.heap.objs.size + 1) (cC (s.heap.objs.size + 1) C none)) { s with heap:=(s.heap.push (cS us)).push (eJ C s.heap.objs.size),toks:=s.toks }:=
  I1.laid (t':=s.toks) (h':=(s.heap.push (cS us)).push (eJ C s.heap.objs.size)) (a:=s.heap.objs.size + 1) (fun b u e=>Heap.get?_push_of_some _ e) (by rw[Heap.size_push];exact Nat.le_refl _)
   (mf (t:=s.heap.objs.size) (by heap_get))
 have r2:Vals (V.ref (s.heap.objs.size + 1)::(vs++dvs)) (Value.ref (s.heap.objs.size + 1)::(us++ds)):=.cons rfl (r.append hd)
 have hl:(Value.ref (s.heap.objs.size + 1)::us++ds).length=ps.length:=by
  have e:=r2.length
  rw[F.len _ _ _ _ hq] at e
  exact e.symm
 have hz':us.length≤sizeLine:=by
  simp only[List.cons_append,List.length_cons,List.length_append] at hl
  omega
 refine wpAny_call (qf (f:=f) I.kIn M.makes hz' M.init (beq_iff_eq.mp M.fn) (codeAny_mono (F.run _ X.stack _ _ ⟨Value.ref (s.heap.objs.size + 1)::us,[]⟩ (Value.ref (s.heap.objs.size + 1)::(us++ds)) _ _ E' (hr.make C us [])
  (I2.vR.make C us []) (hb _ (Value.ref (s.heap.objs.size + 1)::us) I2.kIn hl) r2 hq) fun r s' hq'=>?_))
 cases r with
 | error e=>exact hx pins σ _ _ e s' I2 hq'
 | ok fl=>
  cases fl with
  | ret u=>
   obtain⟨v,H',I3,rv,ev,q3⟩:=I2.after hq'
   subst ev
   exact⟨rv,s.heap.objs.size + 1,H',rfl,Nat.le_trans I.sz (Nat.le_succ _),I3,q3⟩
  | next=>exact False.elim hq'
  | brk=>exact False.elim hq'
  | cont=>exact False.elim hq'
def nX (C:Addr) (sp:Sp) (dvs:List V) (E' E:XK) (t:TA):TS:=fun _ σ H=>t σ H fun vs H1=>∀ x,H1 x=none→sp (.ref x::(vs++dvs)) (upd H1 x (cC x C none)) (fun v H2=>v=.non∧∃ dx,H2 x=some (cC x C dx)∧E (.ref C) dx (del H2 x)) E'
theorem rW (M:XMk X.K C f) (F:aX X.prog X.w X.K X.mg X.base CX k f fd ps sp) (hr:bP (k + 1) X.A) (hg:Gl X x) (hm:X.mg x=some (.ref C)) (hb:Binds X.K fd ps ds) (hd:Vals dvs ds) (hx:Passes CX X E') (hR:Raises X E) (hz:ps.length≤sizeLine)
  (ha:PA X (e::es) t) (hdb:(x == ("__debug__":Str))=false:=by decide) (he:starEach (e::es) X.env=(false,eval e X.env)::starEach es X.env:=by rfl) (hpl:(backTo cpos (starEach es X.env)).any (·.1)=false:=by rfl) :
  PS X (.Raise (some (.Call (.Name x p) (e::es) [] cpos)) none pos) (nX C sp dvs E' E t):=by
 intro pins s σ H D I h
 rw[arm_exec_Raise]
 simp only[evalOpt,Option.map]
 refine wpAny_bind (wpAny_standAt ?_)
 unfold raiseStmt
 dsimp only
 refine wpAny_bind (thn (Q:=fun u s'=>∃ e H' dx,u=.ref e∧X.s₀.heap.objs.size≤e∧Inv X pins σ H' s'∧H' e=some (cC e C dx)∧E (.ref C) dx (del H' e)) ?_ fun u s1 hu=>?_)
 ·refine wpAny_bind (thn (Q:=fun u s'=>∃ e H' dx,u=.ref e∧X.s₀.heap.objs.size≤e∧Inv X pins σ H' s'∧H' e=some (cC e C dx)∧E (.ref C) dx (del H' e)) ?_ fun u s1 hu=>wpAny_bind (wpAny_standAt (wpAny_pure hu)))
  refine wpAny_Call_Name_kw (el I hg hm ?_ hdb)
  refine PySem.W.callWith_K (h₀:=X.base) I.ok.mod.kin M.kp (thn (ha cpos pins s σ H _ I h) fun us s1 ⟨vs,H1,I1,r,q⟩=>⟨I1.kIn,?_⟩) he hpl
  refine thn (qs (Q:=fun e H2=>∃ dx,H2 e=some (cC e C dx)∧E (.ref C) dx (del H2 e)) M F hr hb hd hx hz I1 r q) fun u s' ⟨e,H',a1,a2,a3,dx,a4,a5⟩=>⟨e,H',dx,a1,a2,a3,a4,a5⟩
 ·obtain⟨e,H',dx,rfl,ge,I',q,hE⟩:=hu
  obtain⟨tt,g⟩:=fQ I'.hok q
  have Y:=iK (M:=model X.prog X.w) I'.kIn M.makes
  have exc:=Y.exc
  obtain⟨⟨oc,od,cd,sl,hC,rfl,e2,e4⟩,made,base,_,dunder,isTy⟩:=Y
  have f1:PySem.W.Looks (model X.prog X.w) s1.heap (typeOf (.ref e)) (.ref C):=(PySem.W.Looks.ld g).andThen .now
  have done:X.xe (.ref e) s1:=hR pins σ H' s1 e C dx I' ge q hE
  have hh:=hr.hd
  obtain⟨hp,gg,dd,tk,os⟩:=s1
  repeat (first | with_reducible exact wpAny_raiseNew_none hh done | lk | with_reducible refine wpAny_loadPart_at g ?_ | wp_step)
end
end L2
namespace L2
open PySem PySem.Spec PyProof.Rows
open Builtin Builtin.ObjectAttr
def iL:List Value→Bool
 | .ref _::r=>iL r
 | l=>l == [.type "ValueError",.type "Exception",.type "BaseException",.type "object"]
theorem n_ (self:Value):refuseLoop self "__setattr__" [.type "ValueError",.type "Exception",.type "BaseException",.type "object"]=pure ():=by kernel_rfl
theorem kJ (self:Value):∀ {l:List Value},iL l=true→refuseLoop self "__setattr__" l=pure ()
 | [],e=>by cases beq_iff_eq.mp (show ([] == [Value.type "ValueError",.type "Exception",.type "BaseException",.type "object"])=true from e)
 | x::r,e=>by
  cases x with
  | ref c=>rw[refuseLoop_ref];exact kJ self (l:=r) e
  | type n=>rw[beq_iff_eq.mp (show ((Value.type n::r) == [Value.type "ValueError",.type "Exception",.type "BaseException",.type "object"])=true from e)];exact n_ self
  | _=>cases (List.cons.inj (beq_iff_eq.mp e)).1
theorem nS:∀ {l:List Value},iL l=true→l.contains (.type "object")=true
 | [],e=>by cases beq_iff_eq.mp (show ([] == [Value.type "ValueError",.type "Exception",.type "BaseException",.type "object"])=true from e)
 | x::r,e=>by
  cases x with
  | ref c=>rw[List.contains_cons,nS (l:=r) e,Bool.or_true]
  | type n=>rw[beq_iff_eq.mp (show ((Value.type n::r) == [Value.type "ValueError",.type "Exception",.type "BaseException",.type "object"])=true from e)];decide +kernel
  | _=>cases (List.cons.inj (beq_iff_eq.mp e)).1
theorem uk {l:List Value} (h:iL l=true):l.isEmpty=false:=by
 match l with
 | []=>cases nS h
 | _::_=>rfl
abbrev Bh (prog:Program) (w:World) (A:Around) (R:Result→Shared→Prop) (fin:PySem.Fin) (s1:Shared):Prop:=match fin with
 | .done fl=>R (.ok fl) s1
 | .again nxt=>nxt.quiet=true∧codeAny (model prog w) A nxt R s1
structure o8 (K:PySem.W.Frag) (C:Addr):Prop where
 hd:PySem.W.hasDictIn K C=true
 po:(PySem.W.clsIn K C).any (fun cd=>iL cd.mro)=true
 sa:PySem.W.findIn K (.ref C) "__setattr__"=some (some (.builtin "object.__setattr__"))
section
variable {prog:Program} {w:World} {A:Around} {E:Value→Shared→Prop} {s:Shared} {K:PySem.W.Frag} {e C:Addr} {name:Str} {v:Value} {R:Result→Shared→Prop}
open PySem.W in
theorem kB {ox:Obj} {od:Option Obj} {tk:Tok} {r:Option Value} (X:K.In s.heap) (I:InstAt s.heap e ox C od) (c:o8 K C) (ht:takerIn K C name=some none)
  (h:∀ b,wpAny (model prog w) A.in1 (storeInOwnDict (.ref e) (.ref C) (.str name tk) name v b) (Bh prog w A R) (fun x s1=>R (.error x) s1) s) :
  codeAny (model prog w) A (.call (.builtin "object.__setattr__") ⟨[.ref e,.str name tk,v],[]⟩) R s:=by
 have SF:=PySem.F.store_object
 obtain⟨cd,hc,ho⟩:=any_some c.po
 have line:Looks (model prog w) s.heap (mroOf (.ref C)) cd.mro:=Looks.andThen (looks_clsIn X hc) .now
 have thing:mroIn K C (.type "object")=some true:=by rw[mroIn,hc,Option.bind_some,uk ho,nS ho];rfl
 have inst:Looks (model prog w) s.heap (isInstance (.ref e) (.type "object")) true:=I.type.andThen (looks_mroIn X thing)
 refine codeAny_call_builtin SF.slot.plain SF.entry ?_
 refine check_slot (i:="object.__setattr__") (owner:="object") (n:="__setattr__") (rest:=[.str name tk,v]) (kw:=[]) SF.kind SF.split inst (SF.args (.ref e) (.str name tk) v) ?_
 obtain⟨attr,ha,hr⟩:=Option.bind_eq_some_iff.mp ht
 have free:Looks (model prog w) s.heap (storeTaker? attr) none:=by
  match attr,hr with
  | none,_=>exact .now
  | some a,hr=>
   obtain⟨t,hb,eb⟩:=Option.map_eq_some_iff.mp hr
   match t,eb with
   | false,_=>exact(looks_takesIn X hb).andThen .now
 rw[osa_eq,refuse_eq]
 refine wpAny_bind ?_
 refine wpAny_bind (I.type.here ?_)
 refine wpAny_bind (line.here ?_)
 rw[kJ _ ho]
 refine wpAny_pure ?_
 refine wpAny_bind (I.type.here ?_)
 refine wpAny_bind ((looks_findIn X ha).here ?_)
 exact wpAny_bind (free.here (h _))
theorem qV {vs:Array Value} {Q:Unit→Shared→Prop} (X:K.In s.heap) (g:s.heap.get? e=some { cls:=.ref C,data:=.fields vs }) (c:o8 K C) (ht:PySem.W.takerIn K C name=some none)
  (h:∀ h' tk,h'.get? e=some { cls:=.ref C,dict:=some s.heap.objs.size,data:=.fields vs }→h'.Ns1 s.heap.objs.size (fun y=>if y=name then some v else none)→(∀ b o,b≠e→s.heap.get? b=some o→h'.get? b=some o)→
   Q () { s with heap:=h',toks:=tk }):wpAny (model prog w) A (setAttr (.ref e) name v) Q E s:=by
 have I:PySem.W.InstAt s.heap e { cls:=.ref C,data:=.fields vs } C none:=⟨g,rfl,rfl,True.intro⟩
 refine PySem.W.set_plain X I c.sa (kB (s:={ s with toks:=s.toks + 1 }) (r:=none) X I c ht fun b=>?_)
 obtain⟨cd,hc,hd'⟩:=PySem.W.any_some c.hd
 have hes:e≠s.heap.objs.size:=Nat.ne_of_lt (Heap.lt_size g)
 refine wpAny_bind (wpAny_pure (wpAny_bind (wpAny_bind (wpAny_loadPart (s:={ s with toks:=s.toks + 1 }) g (wpAny_bind (PySem.W.Looks.here (s:={ s with toks:=s.toks + 1 }) (PySem.W.looks_clsIn X hc) ?_))))))
 rw[hd']
 have g1:(s.heap.push PySem.W.emptyDict).get? e=some { cls:=.ref C,data:=.fields vs }:=Heap.get?_push_of_some _ g
 refine wpAny_bind (wpAny_alloc (wpAny_bind (wpAny_update g1 ?_)))
 refine wpAny_pure (a:=some s.heap.objs.size) ?_
 have gd:((s.heap.push PySem.W.emptyDict).update e fun o=>{ o with dict:=some s.heap.objs.size }).get? s.heap.objs.size=some PySem.W.emptyDict:=(Heap.get?_update_ne _ _ _ _ hes.symm).trans (Heap.get?_push_at rfl rfl)
 have nd:((s.heap.push PySem.W.emptyDict).update e fun o=>{ o with dict:=some s.heap.objs.size }).Ns s.heap.objs.size (fun _=>none):=⟨_,#[],_,gd,rfl,fun e he=>absurd he (by simp),fun _=>rfl⟩
 have g2:((s.heap.push PySem.W.emptyDict).update e fun o=>{ o with dict:=some s.heap.objs.size }).get? e=some { cls:=.ref C,dict:=some s.heap.objs.size,data:=.fields vs }:=Heap.get?_update_self _ g1 rfl
 show wpAny _ _ (storeInDict s.heap.objs.size (.str name s.toks) name v) _ _ { s with heap:=((s.heap.push PySem.W.emptyDict).update e fun o=>{ o with dict:=some s.heap.objs.size }),toks:=s.toks + 1 }
 unfold storeInDict newKeyGuard
 refine wpAny_bind (wpAny_pure (wpAny_bind (wpAny_nsSet1 (s:={ s with heap:=((s.heap.push PySem.W.emptyDict).update e fun o=>{ o with dict:=some s.heap.objs.size }),toks:=s.toks + 1 }) (Heap.Ns1.of_empty nd) fun h' hn2 hs2=>?_)))
 obtain⟨oD,esD,epD,hoD,hdD,hcD⟩:=hn2.count (PySem.Within.cons name v PySem.Within.nil)
 have few:esD.size≤sizeLine:=Nat.le_trans hcD (show 1≤sizeLine by rw[sizeLine_eq];decide)
 refine wpAny_bind (wpAny_lookBehind hoD (hdD ▸ pastItsLine_dict (Nat.le_succ_of_le few)) ?_)
 exact wpAny_pure (h h' _ ((hs2.2 e hes).trans g2) hn2 fun b o hb q=>(hs2.2 b (Nat.ne_of_lt (Heap.lt_size q))).trans ((Heap.get?_update_ne _ _ _ _ hb).trans (Heap.get?_push_of_some _ q)))
theorem qU {vs:Array Value} {dx:Addr} {mA:Str→Option Value} {ns:List Str} {Q:Unit→Shared→Prop} (X:K.In s.heap) (g:s.heap.get? e=some { cls:=.ref C,dict:=some dx,data:=.fields vs }) (n:s.heap.Ns1 dx mA) (ne:dx≠e) (c:o8 K C) (ht:PySem.W.takerIn K C name=some none)
  (hw:PySem.Within mA ns) (hsz:ns.length + 1≤sizeLine)
  (h:∀ h' tk,h'.get? e=some { cls:=.ref C,dict:=some dx,data:=.fields vs }→h'.Ns1 dx (fun y=>if y=name then some v else mA y)→Heap.SameBut dx s.heap h'→Q () { s with heap:=h',toks:=tk }):wpAny (model prog w) A (setAttr (.ref e) name v) Q E s:=by
 obtain⟨od,ho,_⟩:=gi n
 have I:PySem.W.InstAt s.heap e { cls:=.ref C,dict:=some dx,data:=.fields vs } C (some od):=⟨g,rfl,rfl,ho⟩
 refine PySem.W.set_plain X I c.sa (kB (s:={ s with toks:=s.toks + 1 }) (r:=none) X I c ht fun b=>?_)
 obtain⟨cd,hc,hd'⟩:=PySem.W.any_some c.hd
 refine wpAny_bind (wpAny_pure (wpAny_bind (wpAny_bind (wpAny_loadPart (s:={ s with toks:=s.toks + 1 }) g (wpAny_bind (PySem.W.Looks.here (s:={ s with toks:=s.toks + 1 }) (PySem.W.looks_clsIn X hc) ?_))))))
 rw[hd']
 refine wpAny_pure (a:=some dx) ?_
 refine wpAny_bind (wpAny_pure ?_)
 refine wpAny_bind ?_
 refine wpAny_nsSet1 (s:={ s with toks:=s.toks + 1 }) n fun h' hn2 hs2=>?_
 obtain⟨oD,esD,epD,hoD,hdD,hcD⟩:=hn2.count (PySem.Within.cons name v hw)
 have few:esD.size≤sizeLine:=Nat.le_trans hcD (by simpa using hsz)
 refine wpAny_bind (wpAny_lookBehind hoD (hdD ▸ pastItsLine_dict (Nat.le_succ_of_le few)) ?_)
 exact wpAny_pure (h h' _ ((hs2.2 _ (Ne.symm ne)).trans g) hn2 hs2)
end
end L2
namespace L2
open PySem PySem.Spec PyProof.Rows
def XdO (d:Addr) (fs:List (Str×V)):HO:=HO.ext fun h=>∃ mA,h.Ns1 d mA∧(∀ f,gz (fs.lookup f) (mA f))∧PySem.Within mA (fs.map (·.1))
theorem qY {P:Program} {w:World} {H:Hp} {h:Heap} {d:Addr} {fs:List (Str×V)} {mA:Str→Option Value} (n:h.Ns1 d mA) (r:∀ f,gz (fs.lookup f) (mA f)) (wi:PySem.Within mA (fs.map (·.1))):bN P w H h d (XdO d fs):=
 ⟨⟨mA,n,r,wi⟩,let ⟨o,_,_,q,_⟩:=n;⟨o,q⟩,fun _ _ ⟨mA,n,r,wi⟩ k=>⟨mA,n.at k,r,wi⟩⟩
theorem lA {P:Program} {w:World} {H:Hp} {h:Heap} {d:Addr} {fs:List (Str×V)} (ok:HOk P w H h) (q:H d=some (XdO d fs)):∃ mA,h.Ns1 d mA∧(∀ f,gz (fs.lookup f) (mA f))∧PySem.Within mA (fs.map (·.1)):=
 (show bN P w H h d (XdO d fs) from ok d _ q).1
section
variable {X:Cx} {pins:List (Addr×Obj)} {σ:St} {H:Hp} {s:Shared} {A:Around} {E:Value→Shared→Prop} {e C d:Addr} {f:Str} {fs:List (Str×V)}
theorem lz {y:V} {u:Value} {Q:Unit→Shared→Prop} (I:Inv X pins σ H s) (q:H e=some (cC e C none)) (c:o8 X.K C) (n:PySem.W.takerIn X.K C f=some none) (ry:RelV y u)
  (h:∀ d s',H d=none→d≠e→Inv X pins σ (upd (upd H d (XdO d [(f,y)])) e (cC e C (some d))) s'→Q () s'):wpAny (model X.prog X.w) A (setAttr (.ref e) f u) Q E s:=by
 obtain⟨t,g⟩:=fQ I.hok q
 have hes:s.heap.objs.size≠e:=Nat.ne_of_gt (Heap.lt_size g)
 refine qV I.kIn g c n fun h' tk g' n' k=>h s.heap.objs.size _ (I.hok.fresh (Nat.le_refl _)) hes ?_
 obtain⟨od,es,ep,ho,hrest⟩:=id n'
 have hfr:od.isFreed=false:=(Heap.get?_some_iff.mp ho).2
 have gm:(s.heap.push od).get? s.heap.objs.size=some od:=Heap.get?_push_size _ hfr
 have nm:(s.heap.push od).Ns1 s.heap.objs.size (fun y=>if y=f then some u else none):=n'.at fun o q=>by rw[ho] at q;cases q;exact gm
 have I1:=I.laid (a:=s.heap.objs.size) (o:=XdO s.heap.objs.size [(f,y)]) (h':=s.heap.push od) (t':=s.toks) (fun b u q=>Heap.get?_push_of_some _ q) (Nat.le_refl _) (qY nm (fun g=>?_) fun g hg=>?_)
 ·refine I1.write (t':=tk) (h':=h') (x:=e) (e:=e) (o:=cC e C (some s.heap.objs.size)) (by rw[ag (Ne.symm hes),q];exact True.intro) (.inl rfl) (fun b u hb z=>?_) ⟨_,g'⟩ (mf g')
  by_cases hb2:b=s.heap.objs.size
  ·subst hb2
   rw[gm] at z;cases z;exact ho
  ·refine k b u hb ?_
   have:(s.heap.push od).get? b=s.heap.get? b:=Heap.get?_push_ne s.heap b od hb2
   rw[← this];exact z
 ·show gz (List.lookup g [(f,y)]) (if g=f then some u else none)
  by_cases z:g=f
  ·have hb:(g == f)=true:=beq_iff_eq.mpr z
   simp only[List.lookup,hb,if_pos z];exact ry
  ·have hb:(g == f)=false:=beq_eq_false_iff_ne.mpr z
   simp only[List.lookup,hb,if_neg z];exact True.intro
 ·by_cases z:g=f
  ·simp [z]
  ·exact absurd (if_neg z) hg
theorem ly {y:V} {u:Value} {Q:Unit→Shared→Prop} (I:Inv X pins σ H s) (q:H e=some (cC e C (some d))) (qd:H d=some (XdO d fs)) (ne:d≠e) (hl:fs.length < 1000) (c:o8 X.K C) (n:PySem.W.takerIn X.K C f=some none) (ry:RelV y u)
  (h:∀ s',Inv X pins σ (upd H d (XdO d (du f y fs))) s'→Q () s'):wpAny (model X.prog X.w) A (setAttr (.ref e) f u) Q E s:=by
 obtain⟨t,g⟩:=fQ I.hok q
 obtain⟨mA,nA,r,wi⟩:=lA I.hok qd
 have hz:(fs.map (·.1)).length + 1≤sizeLine:=by rw[List.length_map,sizeLine_eq];omega
 refine qU I.kIn g nA ne c n wi hz fun h' tk g' n' sb=>h _ ?_
 refine I.write (t':=tk) (x:=d) (e:=d) (by rw[qd];exact True.intro) (.inl rfl) (fun b q hb z=>(sb.2 b hb).trans z) (let ⟨o,_,_,e',_⟩:=n';⟨o,e'⟩) (qY n' (fun g=>?_) fun g hg=>?_)
 ·show gz ((du f y fs).lookup g) (if g=f then some u else mA g)
  rw[fB]
  by_cases q:g=f
  ·rw[if_pos q,if_pos q];exact ry
  ·rw[if_neg q,if_neg q];exact r g
 ·by_cases q:g=f
  ·rw[q];exact(dM f y fs).1
  ·refine(dM f y fs).2 g (wi g fun z=>hg ?_)
   show (if g=f then some u else mA g)=none
   rw[if_neg q];exact z
end
def Ae (K:PySem.W.Frag) (ta tv:TE) (f:Str):TS:=fun D σ H=>tv σ H fun y H1=>ta σ H1 fun x H2=>∃ e C,x=.ref e∧o8 K C∧PySem.W.takerIn K C f=some none∧
 ((H2 e=some (cC e C none)∧∀ d,H2 d=none→d≠e→D.nx σ (upd (upd H2 d (XdO d [(f,y)])) e (cC e C (some d))))∨
  ∃ d fs,H2 e=some (cC e C (some d))∧H2 d=some (XdO d fs)∧d≠e∧fs.length < 1000∧D.nx σ (upd H2 d (XdO d (du f y fs))))
section
variable {X:Cx} {CX:CXT} {k:Nat} {g C:Addr} {fd:FuncData} {ps:List Str} {sp:Sp} {dvs:List V} {ds:List Value} {E:XK} {x m f:Str} {p pos pos' apos:Pos} {e o value:Expr} {es:List Expr} {ta tv:TE} {t:TA} {mc:Value}
theorem uR (ha:PE X o ta) (hv:PE X value tv) (hs:swapsWith value (some (.Attribute o f pos')) pos.line X.env=pure false):PS X (.Assign [.Attribute o f pos'] value pos) (Ae X.K ta tv f):=by
 intro pins s σ H D I h
 refine plainObj_wpAny_Assign_Attribute (thn (hv pins s σ H _ I h) fun u s1 ⟨y,H1,I1,ry,q⟩=>thn (ha pins s1 σ H1 _ I1 q) fun ov s2 ⟨x,H2,I2,rx,a,C,ex,c,n,q2⟩=>?_) hs
 subst ex
 obtain rfl:ov=Value.ref a:=rx
 rcases q2 with ⟨qe,q2⟩ | ⟨d,fs,qe,qd,ne,hl,q2⟩
 ·exact lz I2 qe c n ry fun d s3 hd hne I3=>⟨σ,_,I3,q2 d hd hne⟩
 ·exact ly I2 qe qd ne hl c n ry fun s3 I3=>⟨σ,_,I3,q2⟩
theorem u9 {pl:Sem Bool} (hrd:PySem.W.readsIn X.K C mc=true) (hga:PySem.W.specialIn X.K (.ref C) "__getattribute__"=some (some (.builtin "type.__getattribute__"))) (hf:PySem.W.findCls X.K (.ref C) mc m=some (.val (.ref g))) (kp:PySem.W.keepIn X.K (.ref g)=true)
  (hg:Gl X x) (hm:X.mg x=some (.ref C)) (F:aX X.prog X.w X.K X.mg X.base CX k g fd ps sp) (hr:bP k X.A) (hb:Binds X.K fd ps ds) (hd:Vals dvs ds) (hx:Passes CX X E) (ha:PA X (e::es) t) (hdb:(x == ("__debug__":Str))=false:=by decide)
  (hst:starEach (e::es) X.env=(false,eval e X.env)::starEach es X.env:=by rfl) (hpl:(backTo pos (starEach es X.env)).any (·.1)=false:=by rfl)
  (ht:eval (.Call (.Attribute (.Name x p) m apos) (e::es) [] pos) X.env=(do
   let ov ← eval (.Name x p) X.env
   standAt apos.atName
   let (f,first) ← holding [ov] (getMethod ov m pl)
   callWith pos f first (backTo pos (starEach (e::es) X.env)) (backToKw pos (keywordEach [] X.env))):=by rfl) :
  PE X (.Call (.Attribute (.Name x p) m apos) (e::es) [] pos) (pw sp dvs E t):=by
 intro pins s σ H Q I h
 refine PySem.W.methodCall_KW (pl:=pl) (el I hg hm ?_ hdb) ht
 refine PySem.W.method_cls I.kIn hga (PySem.W.cls_value I.kIn hrd hf rfl ?_)
 have I1:=I.tok (s.toks + 1)
 refine PySem.W.callWith_K (first:=[]) (h₀:=X.base) I.ok.mod.kin kp (thn (ha pos pins _ σ H _ I1 h) fun us s2 ⟨vs,H2,I2,r,q2⟩=>⟨I2.kIn,?_⟩) hst hpl
 exact lM (us:=us) (vs:=vs) F hr hb hd hx I2 r q2
end
end L2
namespace L2
open PySem PySem.Spec PyProof.Rows
namespace XI
open PySem.W
theorem fc (K:Frag):findCls K (.type "ValueError") (.type "type") "__init__"=some (.val (.builtin "ValueError.__init__")):=by kernel_rfl
theorem fg (K:Frag):findIn K (.type "type") "__getattribute__"=some (some (.builtin "type.__getattribute__")):=by kernel_rfl
theorem fs (K:Frag):subIn K (.type "type") (.type "type")=some true:=by kernel_rfl
theorem hk {M:Model} {h:Heap}:Looks M h (hookBefore (.type "type")) none:=by
 unfold hookBefore
 rw[if_neg (by decide)];exact .now
theorem so {M:Model} {h:Heap}:Looks M h (specialOf (.type "ValueError") "__getattribute__") (some (.builtin "type.__getattribute__")):=Looks.of_pure (by kernel_rfl)
theorem oq {M:Model} {h:Heap}:Looks M h (opaqueClassAbove (.type "ValueError")) none:=Looks.of_pure (by kernel_rfl)
theorem ty {M:Model} {h:Heap}:Looks M h (typeOf (.type "ValueError")) (.type "type"):=Looks.of_pure (by kernel_rfl)
theorem hd {M:Model} {A:Around} {E:Value→Shared→Prop} {s:Shared} {Q:Value→Shared→Prop} (h:Q (.builtin "ValueError.__init__") s):wpAny M A (handedOut (.builtin "ValueError.__init__")) Q E s:=by
 rw[handedOut_of (by kernel_rfl)];exact wpAny_pure h
end XI
section
variable {prog:Program} {w:World} {A:Around} {E:Value→Shared→Prop} {s:Shared} {K:PySem.W.Frag} {e C t:Addr} {dx:Option Addr} {u:Value}
theorem ud {pl:Sem Bool} {Q:Value×List Value→Shared→Prop} (X:K.In s.heap) (h:Q (.builtin "ValueError.__init__",[]) { s with toks:=s.toks + 1 }):wpAny (model prog w) A (getMethod (.type "ValueError") "__init__" pl) Q E s:=by
 unfold getMethod
 refine wpAny_bind (XI.so.here ?_)
 dsimp only
 rw[if_pos PySem.W.canon_tga]
 refine wpAny_bind (PySem.W.cls_open X XI.oq XI.ty (XI.fg K) XI.hk (XI.fs K) (XI.fc K) (wpAny_pure ?_))
 exact XI.hd (wpAny_pure h)
theorem xn {Q:Value→Shared→Prop} (Y:cz (model prog w) s.heap C "ValueError" "ValueError.__new__") (g:s.heap.get? e=some { cls:=.ref C,dict:=dx,data:=.fields #[.ref t,.none,.none,.none,.bool false,.none] })
  (h:∀ h' t',h'.get? e=some { cls:=.ref C,dict:=dx,data:=.fields #[.ref t',.none,.none,.none,.bool false,.none] }→(∀ b o,b≠e→s.heap.get? b=some o→h'.get? b=some o)→Q .none { s with heap:=h' }) :
  wpAny (model prog w) A (call (.builtin "ValueError.__init__") [.ref e,u]) Q E s:=by
 have F:=PySem.F.excBase_ValueError
 have t1:PySem.W.Looks (model prog w) s.heap (isInstance (.ref e) (.type "ValueError")) true:=((PySem.W.Looks.ld g).andThen .now).andThen Y.top
 refine wpAny_call (codeAny_call_builtin F.init.plain F.initEntry ?_)
 obtain⟨⟨oc,od,cd,sl,hC,e1,e2,e4⟩,made,base,_,dunder,isTy⟩:=Y
 have hshort:=F.noStar
 obtain⟨hp,gg,dd,tk,os⟩:=s
 dsimp only at *
 unfold checkBuiltinCall
 simp only[F.initRow,F.initSplit,F.initKind]
 refine wpAny_bind (t1.here ?_)
 repeat (first | simp only[Bool.not_true,Bool.false_eq_true,if_false] | with_reducible refine wpAny_loadPart_at g ?_ | with_reducible refine wpAny_loadPart_at hC ?_ | lk | wp_step)
 have g1:=Heap.get?_push_of_some { cls:=.type "tuple",data:=.seq #[u] } g
 refine wpAny_load g1 ?_
 wp_walk
 refine h _ hp.objs.size ?_ fun b o hb q=>?_
 ·rw[Heap.get?_update_self _ g1 rfl];rfl
 ·rw[Heap.get?_update_other _ _ (Ne.symm hb)]
  exact Heap.get?_push_of_some _ q
end
def xw (K:PySem.W.Frag) (t:TA):TE:=fun σ H Q=>t σ H fun vs H2=>∃ e C dx y,vs=[.ref e,y]∧cW K C "ValueError" "ValueError.__new__"=true∧H2 e=some (cC e C dx)∧Q .non H2
section
variable {X:Cx} {p pos apos:Pos} {a:Expr} {es:List Expr} {t:TA}
theorem rY {pl:Sem Bool} (hg:Gl X "ValueError") (hm:X.mg "ValueError"=none) (ha:PA X (a::es) t)
  (hst:starEach (a::es) X.env=(false,eval a X.env)::starEach es X.env:=by rfl) (hpl:(backTo pos (starEach es X.env)).any (·.1)=false:=by rfl)
  (ht:eval (.Call (.Attribute (.Name "ValueError" p) "__init__" apos) (a::es) [] pos) X.env=(do
   let ov ← eval (.Name "ValueError" p) X.env
   standAt apos.atName
   let (f,first) ← holding [ov] (getMethod ov "__init__" pl)
   callWith pos f first (backTo pos (starEach (a::es) X.env)) (backToKw pos (keywordEach [] X.env))):=by rfl) :
  PE X (.Call (.Attribute (.Name "ValueError" p) "__init__" apos) (a::es) [] pos) (xw X.K t):=by
 intro pins s σ H Q I h
 refine PySem.W.methodCall_KW (pl:=pl) (iV (u:=.type "ValueError") I hg hm (by kernel_rfl) ?_) ht
 refine ud I.kIn ?_
 have I1:=I.tok (s.toks + 1)
 have hA:=ha pos pins _ σ H _ I1 h
 rw[hst] at hA ⊢
 refine Calls.callWith_builtin (by show (false || (backTo pos (starEach es X.env)).any (·.1))=false;rw[hpl] <;> rfl) (Calls.evalArgs_plain ?_)
 refine thn hA fun us s2 ⟨vs,H2,I2,r2,e,C,dx,y,ev,mk,q,hQ⟩=>?_
 subst ev
 obtain⟨u1,us1,rfl,r1,r3⟩:∃ u us',us=u::us'∧RelV (.ref e) u∧Vals [y] us':=by cases r2 with | cons a b=>exact⟨_,_,rfl,a,b⟩
 obtain⟨u2,rfl,_⟩:∃ u,us1=[u]∧RelV y u:=by cases r3 with | cons a b=>cases b;exact⟨_,rfl,a⟩
 obtain rfl:u1=Value.ref e:=r1
 obtain⟨tt,g⟩:=fQ I2.hok q
 refine xn (iK I2.kIn mk) g fun h' t' g' k=>⟨.non,H2,?_,rfl,hQ⟩
 have I3:=I2.write (t':=s2.toks) (h':=h') (x:=e) (e:=e) (o:=cC e C dx) (by rw[q];exact True.intro) (.inl rfl) (fun b o hb z=>k b o hb z) ⟨_,g'⟩ (mf g')
 have:upd H2 e (cC e C dx)=H2:=by
  funext b
  by_cases hb:b=e
  ·rw[hb,ax,q]
  ·rw[ag hb]
 rw[this] at I3
 exact I3
end
end L2
namespace L2
open PySem PySem.Spec PyProof.Rows
structure XAt (X:Cx) (pins:List (Addr×Obj)) (n:Nat):Prop where
 s0:X.s₀.heap.objs.size≤n
 loc:X.env.locals < n
 cel:∀ x c,X.env.cells.lookup x=some c→c < n
 pin:∀ p∈X.pn++pins,p.1 < n
section
variable {X:Cx} {pins:List (Addr×Obj)} {σ:St} {H:Hp} {s:Shared} {n:Nat} {h':Heap} {e L:Addr} {cls:Value} {dx:Option Addr} {M:Model} {E:Value→Shared→Prop}
theorem Inv.xat (I:Inv X pins σ H s):XAt X pins s.heap.objs.size:=
 ⟨I.sz,I.lt,fun x c q=>let ⟨_,_,ho,_⟩:=I.cell x c q;Heap.lt_size ho,fun p hp=>Heap.lt_size (I.pin p hp).1⟩
theorem XAt.forget (a:XAt X pins n):XAt X [] n:=⟨a.s0,a.loc,a.cel,fun p hp=>a.pin p (List.mem_append_left _ (by simpa using hp))⟩
theorem Inv.lv (I:Inv X pins σ H s) (a:XAt X pins n) (l:Lv n H (frs X.stack) s.heap h'):Inv X pins σ H { s with heap:=h' }:=by
 have hok:HOk X.prog X.w H h':=fun b o q=>by
  refine(I.hok b o q).iP (fun c u hc g=>?_) (fun _ z=>z) fun _ _ z=>z
  have hn:H c≠none:=by
   rcases hc with z | z
   ·rw[z,q];simp
   ·rw[z];simp
  exact l.keep c u g (fun m=>hn (I.lD c m)) (.inr hn)
 have mem:∀ b,b∈(List.range s.heap.objs.size).filter (fun b=>decide (n≤b))↔b < s.heap.objs.size∧n≤b:=fun b=>by simp [List.mem_filter,List.mem_range]
 refine I.call (g':=s.gens) (t':=s.toks) (d':=s.drawn) (ch:=(List.range s.heap.objs.size).filter (fun b=>decide (n≤b))) ⟨fun b o q nn nf nch=>?_,fun b o q nn hb _=>l.slot b o q hb,fun b o _ nn _=>nn,fun b o q _=>l.there b o q,fun _ _ z=>z,fun _ _ _ z=>z,fun b ps z=>⟨#[],by rw[z,Array.append_empty]⟩⟩ hok I.bare fun b hb=>?_
 ·refine l.keep b o q nf (.inl ?_)
  rcases Nat.lt_or_ge b n with z | z
  ·exact z
  ·exact absurd ((mem b).mpr ⟨Heap.lt_size q,z⟩) nch
 ·have z:=((mem b).mp hb).2
  refine⟨.inr (Nat.le_trans a.s0 z),fun y=>?_,fun x c q y=>?_,fun p hp y=>?_⟩
  ·exact Nat.lt_irrefl b (Nat.lt_of_lt_of_le (by rw[y];exact a.loc) z)
  ·exact Nat.lt_irrefl b (Nat.lt_of_lt_of_le (by rw[← y];exact a.cel x c q) z)
  ·exact Nat.lt_irrefl b (Nat.lt_of_lt_of_le (by rw[← y];exact a.pin p hp) z)
theorem land (I:Inv X pins σ H s) (a:XAt X pins n) (x:ExcAt n H s.heap e cls dx) (hs:X.stack=X.env::X.outer) (hf:X.env.frame=some L) {Q:Unit→Shared→Prop}
  (h:∀ h',Inv X pins σ H { s with heap:=h' }→ExcAt n H h' e cls dx→Q () { s with heap:=h' }) :
  wpAny M X.A (noteFrame (.ref e) X.env) (fun _ s'=>wpAny M X.A (setFlight (.ref e) none) Q E s') E s:=by
 have ff:=I.stack
 have fr:=I.ok.frames
 rw[hs] at ff fr
 have hn:n≤s.heap.objs.size:=by
  obtain⟨oe,vs,he,_⟩:=x.rcd
  exact Nat.le_trans x.ge (Nat.le_of_lt (Heap.lt_size he))
 refine m_ (n:=n) (H:=H) fr ff hf hn (fun b hb=>I.hok.fresh hb) x fun h' l x' _=>h h' (I.lv a ?_) x'
 rw[hs];exact l
end
def XP (X:Cx) (W:St→XK) (ev:Value) (s':Shared):Prop:=∃ e cls dx H' σ' n,ev=.ref e∧Inv X [] σ' H' s'∧XAt X [] n∧ExcAt n H' s'.heap e cls dx∧W σ' cls dx H'
def jN (CX:CXT) (X:Cx) (E:St→XK):Prop:=∀ (pins:List (Addr×Obj)) (σ:St) (H:Hp) (s:Shared) (e:Value) (s':Shared),Inv X pins σ H s→CX X.stack H s (E σ) e s'→X.xe e s'
theorem uc {X:Cx} {W:St→XK} {pins:List (Addr×Obj)} {σ:St} {H:Hp} {s:Shared} {ev:Value} {s':Shared} (I:Inv X pins σ H s) (h:CX1 X.prog X.w X.base X.stack H s (W σ) ev s'):XP X W ev s':=by
 obtain⟨e,cls,dx,H',ee,os,bare,un,hok,ff,x,hE⟩:=h
 have I1:Inv X pins σ H' s':=I.tY (ch:=[]) os un hok bare fun _ z=>nomatch z
 have I2:Inv X [] σ H' s':=I1.ik fun _ z=>nomatch z
 exact⟨e,cls,dx,H',σ,s.heap.objs.size,ee,I2,I.xat.forget,x,hE⟩
theorem AE {X:Cx} {W:St→XK}:jN (CX1 X.prog X.w X.base) (X.e_ (XP X W)) W:=by
 intro pins σ H s ev s' I h
 have h':CX1 X.prog X.w X.base X.stack H s (W σ) ev s':=h
 exact uc I.bZ h'
end L2
namespace L2
open PySem PySem.Spec PyProof.Rows
section
variable {X:Cx} {pins:List (Addr×Obj)} {σ:St} {H:Hp} {s:Shared} {n:Nat} {e:Addr} {cls:Value} {dx:Option Addr}
theorem jK {M:Model} {A:Around} {E:Value→Shared→Prop} {i:Nat} {x:Str} {pos:Pos} {Q:Unit→Shared→Prop} (I:Inv X pins σ H s) (hN:X.N.Nodup) (hi:X.N[i]?=some x) (hk:X.env.kindOf x=some .local)
  (h:∀ s',Inv X pins (σ.set i none) H s'→Q () s'):wpAny M A (do bindName X.env x .none;unbindBehindTheSuite X.env x pos) Q E s:=by
 obtain⟨m,hn,hl⟩:=id I.loc
 have hcls:(X.env.scope.kind == .class || (X.env.scope.kind == .module && X.env.locals != X.env.globals))=false:=by rw[I.ok.kind];rfl
 have hiσ:i < σ.length:=by rw[I.len];exact(List.getElem?_eq_some_iff.mp hi).1
 refine wpAny_nameGoes_keeps hk hn hcls fun h' v hn' hs=>h _ ?_
 have tracked:HOk X.prog X.w H h':=fun b ob e=>by
  refine(I.hok b ob e).iP (fun c w' hc q=>(hs.2 c ?_).trans q) (fun _ q=>q) fun _ _ q=>q
  intro z
  have fr:=I.free
  rw[← z] at fr
  rcases hc with y | y
  ·rw[y,e] at fr;cases fr
  ·rw[y] at fr;cases fr
 refine⟨I.ok,I.os,I.bare,⟨fun b o e n hb hx=>?_,fun b o e n hb hx=>?_,I.base.free,fun b o e hx=>?_,I.base.tups,I.base.frzs,I.base.tbls⟩,⟨_,hn',fun j y v' e1 e2 e3=>?_⟩,fun y c e=>?_,I.free,I.freeC,fun p hp=>?_,tracked,by rw[List.length_set];exact I.len⟩
 ·exact(hs.2 b (Nat.ne_of_lt (Nat.lt_of_lt_of_le (Heap.lt_size e) I.ok.above))).trans (I.base.keep b o e n hb hx)
 ·obtain⟨sl,e1⟩:=I.base.slot b o e n hb hx
  exact⟨sl,(hs.2 b (Nat.ne_of_lt (Nat.lt_of_lt_of_le (Heap.lt_size e) I.ok.above))).trans e1⟩
 ·obtain⟨o',e1⟩:=I.base.there b o e hx
  exact⟨o',(hs.2 b (Nat.ne_of_lt (Nat.lt_of_lt_of_le (Heap.lt_size e) I.ok.above))).trans e1⟩
 ·by_cases hj:j=i
  ·subst hj
   rw[List.getElem?_set_self hiσ] at e2
   cases e2
  ·rw[List.getElem?_set_ne (Ne.symm hj)] at e2
   obtain⟨u',r',q⟩:=hl j y v' e1 e2 e3
   refine⟨u',r',?_⟩
   rcases q with ⟨k,e⟩ | ⟨k,c,e,z⟩
   ·refine .inl ⟨k,?_⟩
    have:y≠x:=fun e=>hj (jY hN e1 (e ▸ hi))
    simp [this,e]
   ·exact .inr ⟨k,c,e,z.sameBut hs (I.cne y c e)⟩
 ·obtain⟨w',z⟩:=I.cell y c e
  exact⟨w',z.sameBut hs (I.cne y c e)⟩
 ·obtain⟨e,n,ne,nf,d⟩:=I.pin p hp
  exact⟨(hs.2 p.1 ne).trans e,n,ne,nf,d⟩
def iI (e:Addr) (cls:Value) (dx:Option Addr):HO:=HO.ext fun h=>∃ o vs,h.get? e=some o∧o.cls=cls∧o.dict=dx∧o.data=.fields vs
theorem ng {P:Program} {w:World} {H:Hp} {h:Heap} (ok:HOk P w H h) (q:H e=some (iI e cls dx)):∃ o vs,h.get? e=some o∧o.cls=cls∧o.dict=dx∧o.data=.fields vs:=
 (show bN P w H h e (iI e cls dx) from ok e _ q).1
theorem Inv.zr (I:Inv X pins σ H s) (a:XAt X pins n) (x:ExcAt n H s.heap e cls dx):Inv X pins σ (upd H e (iI e cls dx)) s:=by
 obtain⟨ge,fr,oe,vs,he,hc,hd,hdt,hz,_⟩:=x
 have ne:∀ b,H b≠none→b≠e:=fun b hb z=>hb (by rw[z];exact fr)
 have hok:HOk X.prog X.w (upd H e (iI e cls dx)) s.heap:=fun b o q=>by
  by_cases z:b=e
  ·subst z
   rw[ax] at q;cases q
   exact⟨⟨oe,vs,he,hc,hd,hdt⟩,⟨oe,he⟩,fun _ _ ⟨o,vs,q,r⟩ k=>⟨o,vs,k _ q,r⟩⟩
  ·rw[ag z] at q
   exact(I.hok b o q).iP (fun _ _ _ r=>r) (fun c r=>by rw[ag (ne c (by rw[r];simp))];exact r) fun c xs r=>by rw[ag (ne c (by rw[r];simp))];exact r
 refine I.tY (ch:=[e]) rfl ⟨fun b o q _ _ _=>q,fun b o q _ _ _=>⟨o.slots,q⟩,fun b o q nn nch=>?_,fun b o q _=>⟨o,q⟩,fun b xs r=>?_,fun b o u r=>?_,fun b ps r=>⟨#[],?_⟩⟩ hok I.bare fun b hb=>?_
 ·rw[ag (fun z=>nch (by simp [z]))];exact nn
 ·rw[ag (ne b (by rw[r];simp))];exact r
 ·rw[ag (ne b (by rw[r];simp))];exact r
 ·rw[ag (ne b (by rw[r];simp)),Array.append_empty];exact r
 ·have hb:b=e:=by simpa using hb
  subst hb
  refine⟨.inr (Nat.le_trans a.s0 ge),fun y=>?_,fun x c q y=>?_,fun p hp y=>?_⟩
  ·exact Nat.lt_irrefl b (Nat.lt_of_lt_of_le (by rw[y];exact a.loc) ge)
  ·exact Nat.lt_irrefl b (Nat.lt_of_lt_of_le (by rw[← y];exact a.cel x c q) ge)
  ·exact Nat.lt_irrefl b (Nat.lt_of_lt_of_le (by rw[← y];exact a.pin p hp) ge)
theorem qL {M:Model} {A:Around} {E:Value→Shared→Prop} {Q:Unit→Shared→Prop} (I:Inv X pins σ H s) (a:XAt X pins n) (x:ExcAt n H s.heap e cls dx)
  (h:∀ h',Inv X pins σ H { s with heap:=h' }→ExcAt n H h' e cls dx→Q () { s with heap:=h' }):wpAny M A (setFlight (.ref e) none) Q E s:=by
 obtain⟨ge,fr,oe,vs,he,hc,hd,hdt,hz,tb⟩:=x
 unfold setFlight
 rcases tb with h1 | ⟨T,oT,ts,h1,gT,nT,fT,hT,hdT,h3⟩
 ·refine wpAny_bind (wpAny_field he hdt h1 ?_)
  rw[if_neg (by decide)]
  exact wpAny_pure (h s.heap I ⟨ge,fr,oe,vs,he,hc,hd,hdt,hz,.inl h1⟩)
 ·refine wpAny_bind (wpAny_field he hdt h1 ?_)
  rw[if_pos (show (Value.ref T != Value.none)=true by simp)]
  have tz:=(Array.getElem?_eq_some_iff.mp h3).1
  refine wpAny_setField hT hdT tz ?_
  have ot:∀ b,b≠T→(s.heap.update T (Obj.mapFields (·.setIfInBounds 3 Value.none))).get? b=s.heap.get? b:=fun b hb=>Heap.get?_update_other _ _ (Ne.symm hb)
  have tT:=Heap.get?_update_self (Obj.mapFields (·.setIfInBounds 3 Value.none)) hT (Obj.isFreed_of_fields (Obj.data_mapFields hdT _))
  refine h _ (I.lv a ⟨fun b o q nf hb=>(ot b fun z=>?_).trans q,fun b o q hb=>⟨o.slots,(ot b fun z=>?_).trans q⟩,fun b o q=>?_⟩) ⟨ge,fr,oe,vs,(ot e (Ne.symm nT)).trans he,hc,hd,hdt,hz,.inr ⟨T,_,_,h1,gT,nT,fT,tT,Obj.data_mapFields hdT _,?_⟩⟩
  ·subst z
   rcases hb with w | w
   ·exact Nat.lt_irrefl _ (Nat.lt_of_lt_of_le w gT)
   ·exact w fT
  ·subst z
   obtain⟨_,o',ho',nf'⟩:=I.stack.mem hb
   rw[hT] at ho';cases ho'
   exact nf' ts hdT
  ·by_cases z:b=T
   ·subst z;exact⟨_,tT⟩
   ·exact⟨o,(ot b z).trans q⟩
  ·rw[Array.getElem?_setIfInBounds_self_of_lt tz]
end
end L2
namespace L2
open PySem PySem.Spec PyProof.Rows
structure t_ (K:PySem.W.Frag) (C:Addr):Prop where
 ty:PySem.W.typeIn K (.ref C)=some (.type "type")
 ex:PySem.W.mroIn K C (.type "BaseException")=some true
theorem oW {K:PySem.W.Frag} {C:Addr} {cd:ClassData} (h:PySem.W.clsIn K C=some cd):∃ oc od sl,K.lookup C=some ⟨oc,od,.cls cd,sl⟩:=by
 unfold PySem.W.clsIn at h
 split at h
 ·rename_i q
  cases h
  exact⟨_,_,_,q⟩
 ·cases h
section
variable {prog:Program} {w:World} {A:Around} {E:Value→Shared→Prop} {s:Shared} {K:PySem.W.Frag} {e C C₀:Addr} {oe:Obj} {b:Bool} {Q:Bool→Shared→Prop}
theorem exm (X:K.In s.heap) (c:t_ K C₀) (he:s.heap.get? e=some oe) (hc:oe.cls=.ref C) (hs:PySem.W.mroIn K C (.ref C₀)=some b) (h:Q b s):wpAny (model prog w) A (excMatches (.ref e) (.ref C₀)) Q E s:=by
 have l1:PySem.W.Looks (model prog w) s.heap (typeOf (.ref C₀)) (.type "type"):=PySem.W.looks_typeIn X c.ty
 have l2:PySem.W.Looks (model prog w) s.heap (isSubtype (.ref C₀) (.type "BaseException")) true:=PySem.W.looks_mroIn X c.ex
 have l3:PySem.W.Looks (model prog w) s.heap (typeOf (.ref e)) (.ref C):=by rw[← hc];exact(PySem.W.Looks.ld he).andThen .now
 have l4:PySem.W.Looks (model prog w) s.heap (isSubtype (.ref C) (.ref C₀)) b:=PySem.W.looks_mroIn X hs
 have f:=tc_notTuple
 have f2:=tc_sub
 obtain⟨cd,h1,_⟩:=Option.bind_eq_some_iff.mp c.ex
 obtain⟨oc,od,sl,h2⟩:=oW h1
 have hC:=X _ _ h2
 unfold excMatches
 obtain⟨hp,gg,dd,tk,os⟩:=s
 repeat (first | with_reducible refine wpAny_loadPart_at hC ?_ | lk | wp_step)
 cases b <;> (wp_walk;exact h)
end
abbrev Cx.gM (X:Cx) (pins:List (Addr×Obj)):Cx:={ X with pn:=X.pn++pins }
abbrev Cx.sui (X:Cx) (e:Addr):Cx:={ X with A:=X.A.mark (some (.ref e)),calm:=false,xe:=fun _ _=>False }
section
variable {X:Cx} {pins:List (Addr×Obj)} {σ:St} {H:Hp} {s:Shared} {e:Addr}
theorem Cx.Ok.gM (ok:X.Ok):(X.gM pins).Ok:=
 ⟨ok.mod,ok.kind,ok.glob,ok.blt,ok.above,ok.inj,ok.has,ok.cab,ok.hd,ok.frames,ok.stk,ok.exf,ok.bs,ok.bsz,ok.noex,ok.exfs,ok.eZ,ok.frf⟩
theorem Cx.Ok.dn (ok:(X.gM pins).Ok):X.Ok:=
 ⟨ok.mod,ok.kind,ok.glob,ok.blt,ok.above,ok.inj,ok.has,ok.cab,ok.hd,ok.frames,ok.stk,ok.exf,ok.bs,ok.bsz,ok.noex,ok.exfs,ok.eZ,ok.frf⟩
theorem Inv.gM (I:Inv X pins σ H s):Inv (X.gM pins) [] σ H s:=⟨I.ok.gM,I.os,I.bare,I.base,I.loc,I.cell,I.free,I.freeC,fun p hp=>I.pin p (by rw[List.append_nil] at hp;exact hp),I.hok,I.len⟩
theorem Inv.dn (I:Inv (X.gM pins) [] σ H s):Inv X pins σ H s:=⟨I.ok.dn,I.os,I.bare,I.base,I.loc,I.cell,I.free,I.freeC,fun p hp=>I.pin p (by rw[List.append_nil];exact hp),I.hok,I.len⟩
theorem Cx.Ok.sui (ok:X.Ok) (e:Addr):(X.sui e).Ok:=
 ⟨ok.mod,ok.kind,ok.glob,ok.blt,ok.above,ok.inj,ok.has,ok.cab,fun z=>(Bool.noConfusion z),ok.frames,ok.stk,ok.exf,ok.bs,ok.bsz,ok.noex,ok.exfs,ok.eZ,ok.frf⟩
theorem Inv.sui (I:Inv X pins σ H s) (e:Addr):Inv (X.sui e) pins σ H s:=⟨I.ok.sui e,I.os,I.bare,I.base,I.loc,I.cell,I.free,I.freeC,I.pin,I.hok,I.len⟩
theorem Inv.pj (ok:X.Ok) (I:Inv (X.sui e) pins σ H s):Inv X pins σ H s:=⟨ok,I.os,I.bare,I.base,I.loc,I.cell,I.free,I.freeC,I.pin,I.hok,I.len⟩
end
def Ends.l_ (D:Ends) (i:Nat):Ends:=⟨fun σ H=>D.nx (σ.set i none) H,D.rt,fun σ H=>D.bk (σ.set i none) H,fun σ H=>D.ct (σ.set i none) H⟩
def uo (K:PySem.W.Frag) (C₀:Addr) (i:Nat) (ts:TS) (D:Ends):St→XK:=fun σ' cls dx H'=>∃ C,cls=.ref C∧PySem.W.mroIn K C (.ref C₀)=some true∧∀ e,H' e=none→ts (D.l_ i) (σ'.set i (some (.ref e))) (upd H' e (iI e cls dx))
def xx (K:PySem.W.Frag) (C₀:Addr) (i:Nat) (tb:(St→XK)→TS) (ts:TS):TS:=fun D σ H=>tb (uo K C₀ i ts D) D σ H
section
variable {X:Cx} {x nm:Str} {i:Nat} {C₀ L:Addr} {body suite:List Stmt} {b₀:Stmt} {np hpos pos:Pos} {tb:(St→XK)→TS} {ts:TS}
theorem tP {pins:List (Addr×Obj)} {σ:St} {H:Hp} {s:Shared} {n:Nat} {e:Addr} {cls:Value} {dx:Option Addr} {D:Ends} (c:t_ X.K C₀) (hg:Gl X x) (hm:X.mg x=some (.ref C₀)) (hN:X.N.Nodup) (hi:X.N[i]?=some nm) (hk:X.env.kindOf nm=some .local)
  (hs:∀ e,PSs (X.sui e) (b₀::suite) ts) (I:Inv X pins σ H s) (a:XAt X pins n) (y:ExcAt n H s.heap e cls dx) (w:uo X.K C₀ i ts D σ cls dx H) (hdb:(x == ("__debug__":Str))=false) :
  wpAny (model X.prog X.w) X.A (handleBy (.ref e) X.env [.ExceptHandler (some (.Name x np)) (some nm) (b₀::suite) hpos]) (SP X pins D) X.xe s:=by
 obtain⟨C,rfl,hsub,ht⟩:=w
 obtain⟨oe,vs,he,hc,_⟩:=id y.rcd
 refine wpAny_handleBy_cons (codeAny_handlers_test (el (X:=X.sui e) (I.sui e) hg hm ?_ hdb)) (by intro q;cases q)
 refine exm I.kIn c he hc hsub ?_
 dsimp only
 rw[if_pos rfl]
 refine codeAny_handlers_suite_as (qL I a y fun h' I1 y1=>?_)
 have I2:=I1.zr a y1
 refine fe (v:=.ref e) I2 hN hi (.inl hk) rfl (fun s2 I3=>?_) (.inr hk)
 refine wpAny_mono ((hs e) pins s2 _ _ (D.l_ i) (I3.sui e) (ht e y.free)) (fun f s3 q=>?_) fun _ _ z=>z.elim
 have ok:=I.ok
 cases f with
 | next=>
  obtain⟨σ',H',I',q⟩:=q
  exact jK (I'.pj ok) hN hi hk fun s4 I4=>⟨_,H',I4,q⟩
 | brk=>
  obtain⟨σ',H',I',q⟩:=q
  exact jK (I'.pj ok) hN hi hk fun s4 I4=>⟨_,H',I4,q⟩
 | cont=>
  obtain⟨σ',H',I',q⟩:=q
  exact jK (I'.pj ok) hN hi hk fun s4 I4=>⟨_,H',I4,q⟩
 | ret u=>
  obtain⟨v,σ',H',I',r,q⟩:=q
  exact jK (I'.pj ok) hN hi hk fun s4 I4=>⟨v,_,H',I4,r,q⟩
theorem xX (c:t_ X.K C₀) (hst:X.stack=X.env::X.outer) (hfr:X.env.frame=some L) (hg:Gl X x) (hm:X.mg x=some (.ref C₀)) (hN:X.N.Nodup) (hi:X.N[i]?=some nm) (hk:X.env.kindOf nm=some .local)
  (hb:∀ pins W,PSs ((X.gM pins).e_ (XP (X.gM pins) W)) body (tb W)) (hs:∀ pins e,PSs ((X.gM pins).sui e) (b₀::suite) ts) (hdb:(x == ("__debug__":Str))=false:=by decide) :
  PS X (.Try body [.ExceptHandler (some (.Name x np)) (some nm) (b₀::suite) hpos] [] [] pos) (xx X.K C₀ i tb ts):=by
 intro pins s σ H D I h
 have bd:=hb pins (uo X.K C₀ i ts D) [] s σ H D (I.gM.e_ _) h
 refine wpAny_Try_except (wpAny_mono bd (fun f s1 q=>?_) fun ev s1 q=>?_)
 ·cases f with
  | next=>
   obtain⟨σ',H',I',q⟩:=q
   exact wpAny_execs_nil ⟨σ',H',I'.bZ.dn,q⟩
  | brk=>
   obtain⟨σ',H',I',q⟩:=q
   exact⟨σ',H',I'.bZ.dn,q⟩
  | cont=>
   obtain⟨σ',H',I',q⟩:=q
   exact⟨σ',H',I'.bZ.dn,q⟩
  | ret u=>
   obtain⟨v,σ',H',I',r,q⟩:=q
   exact⟨v,σ',H',I'.bZ.dn,r,q⟩
 ·obtain⟨e,cls,dx,H',σ',n,rfl,I',a,y,w⟩:=q
  refine land I' a y hst hfr fun h' I2 y2=>?_
  have r:=tP (X:=X.gM pins) (np:=np) (hpos:=hpos) (D:=D) c hg hm hN hi hk (hs pins) I2 a y2 w hdb
  refine thn r fun f s3 q=>?_
  cases f with
  | next=>
   obtain⟨σ2,H2,I2,q⟩:=q
   exact⟨σ2,H2,I2.dn,q⟩
  | brk=>
   obtain⟨σ2,H2,I2,q⟩:=q
   exact⟨σ2,H2,I2.dn,q⟩
  | cont=>
   obtain⟨σ2,H2,I2,q⟩:=q
   exact⟨σ2,H2,I2.dn,q⟩
  | ret u=>
   obtain⟨v,σ2,H2,I2,r,q⟩:=q
   exact⟨v,σ2,H2,I2.dn,r,q⟩
end
end L2
namespace L2
open PySem PySem.Spec PyProof.Rows
def nZ (sp:Sp) (dvs:List V) (E:St→XK) (t:TA):TE:=fun σ H Q=>t σ H fun vs H1=>sp (vs++dvs) H1 Q (E σ)
def B7 (C:Addr) (m:Str) (sp:Sp) (dvs:List V) (E:St→XK) (ta:TE) (t:TA):TE:=fun σ H Q=>kG C m sp dvs (E σ) ta t σ H Q
def B8 (C:Addr) (sp:Sp) (dvs:List V) (E:St→XK) (t:TA):TE:=fun σ H Q=>pv C sp dvs (E σ) t σ H Q
section
variable {X:Cx} {CX:CXT} {k:Nat} {f C:Addr} {fd:FuncData} {ps:List Str} {sp:Sp} {dvs:List V} {ds:List Value} {E:St→XK} {x m:Str} {p pos apos:Pos} {e o:Expr} {es:List Expr} {ta:TE} {t:TA}
theorem uD {pins:List (Addr×Obj)} {σ:St} {H:Hp} {s:Shared} {Q:VK} {us:List Value} {vs:List V} (F:aX X.prog X.w X.K X.mg X.base CX k f fd ps sp) (hr:bP k X.A) (hb:Binds X.K fd ps ds) (hd:Vals dvs ds) (hx:jN CX X E)
  (I:Inv X pins σ H s) (r:Vals vs us) (h:sp (vs++dvs) H Q (E σ)):wpAny (model X.prog X.w) X.A (call (.ref f) us) (EP X pins σ Q) X.xe s:=by
 have r2:Vals (vs++dvs) (us++ds):=r.append hd
 have hl:(us++ds).length=ps.length:=by rw[← r2.length];exact F.len _ _ _ _ h
 refine wpAny_call (codeAny_mono (F.run X.A X.stack s H ⟨us,[]⟩ (us++ds) (vs++dvs) Q (E σ) hr I.vR (hb s us I.kIn hl) r2 h) fun r s' hq=>?_)
 cases r with
 | error e=>exact hx pins σ H s e s' I hq
 | ok fl=>
  cases fl with
  | ret u=>exact I.after hq
  | next=>exact False.elim hq
  | brk=>exact False.elim hq
  | cont=>exact False.elim hq
theorem sd (F:aX X.prog X.w X.K X.mg X.base CX k f fd ps sp) (hr:bP k X.A) (hg:Gl X x) (hm:X.mg x=some (.ref f)) (hk:PySem.W.keepIn X.K (.ref f)=true) (hb:Binds X.K fd ps ds) (hd:Vals dvs ds) (hx:jN CX X E)
  (ha:PA X (e::es) t) (hdb:(x == ("__debug__":Str))=false:=by decide) (he:starEach (e::es) X.env=(false,eval e X.env)::starEach es X.env:=by rfl) (hpl:(backTo pos (starEach es X.env)).any (·.1)=false:=by rfl) :
  PE X (.Call (.Name x p) (e::es) [] pos) (nZ sp dvs E t):=by
 intro pins s σ H Q I h
 refine wpAny_Call_Name_kw (el I hg hm ?_ hdb)
 refine PySem.W.callWith_K (h₀:=X.base) I.ok.mod.kin hk (thn (ha pos pins s σ H _ I h) fun us s1 ⟨vs,H1,I1,r,q⟩=>⟨I1.kIn,?_⟩) he hpl
 exact uD F hr hb hd hx I1 r q
end
end L2
namespace L2
open PySem PySem.Spec PyProof.Rows
structure t9 (K:PySem.W.Frag) (C:Addr):Prop where
 ga:PySem.W.findIn K (.ref C) "__getattribute__"=some (some (.builtin "BaseException.__getattribute__"))
 gh:PySem.W.findIn K (.ref C) "__getattr__"=some none
 hd:PySem.W.hasDictIn K C=true
 ex:PySem.W.mroIn K C (.type "BaseException")=some true
section
variable {prog:Program} {w:World} {A:Around} {E:Value→Shared→Prop} {s:Shared} {K:PySem.W.Frag} {e C dx:Addr} {name:Str} {v:Value} {mA:Str→Option Value} {oe:Obj} {vs:Array Value}
open PySem.W in
theorem qW {expr:Bool} {Q:Value→Shared→Prop} (X:K.In s.heap) (he:s.heap.get? e=some oe) (hc:oe.cls=.ref C) (hdx:oe.dict=some dx) (hdt:oe.data=.fields vs) (n:s.heap.Ns1 dx mA) (c:t9 K C)
  (ha:findIn K (.ref C) name=some none) (hv:mA name=some v) (hv':handedIn v=true) (h:Q v { s with toks:=s.toks + 1 }):wpAny (model prog w) A (getAttr (.ref e) name expr) Q E s:=by
 obtain⟨od,ho,hl⟩:=gi n
 have I:InstAt s.heap e oe C (some od):=⟨he,hc,by unfold notCls;rw[hdt],by rw[hdx];exact ho⟩
 have hf:findObj K C (some od) name=some (.value v):=findObj_own c.hd ha rfl (by rw[hl,hv])
 have ti:Looks (model prog w) s.heap (isInstance (.ref e) (.type "BaseException")) true:=I.type.andThen (looks_mroIn X c.ex)
 have L0:=I.type (M:=model prog w)
 have L1:=looks_find (M:=model prog w) X I hf
 have hb:Looks (model prog w) s.heap (hookBefore (.ref C)) none:=looks_hook X (show (if true=true then findIn K (.ref C) "__getattr__" else some none)=some none from c.gh)
 have ga:=PySem.F.attr_ValueError.ga
 refine wpAny_bind (wpAny_mkText (wpAny_holding (wpAny_bind (L0 _ _ _ _ (fun _ _ e=>e) (wpAny_bind (looks_findIn X c.ga _ _ _ _ (fun _ _ e=>e) ?_))))))
 dsimp only
 rw[show (onTheHeap (Value.ref C) && Value.builtin "BaseException.__getattribute__" == Value.builtin "object.__getattribute__")=false from by rw[show (Value.builtin "BaseException.__getattribute__" == Value.builtin "object.__getattribute__")=false from by decide +kernel,Bool.and_false],if_neg (by decide)]
 refine wpAny_bind (hb _ _ _ _ (fun _ _ e=>e) ?_)
 refine wpAny_bind (wpAny_attempt (wpAny_holding ?_))
 unfold callGetattribute
 rw[show (expr && onTheHeap (Value.builtin "BaseException.__getattribute__"))=false from Bool.and_false _,if_neg (by decide)]
 unfold boundAndCalled
 rw[ga.bind]
 refine wpAny_bind (wpAny_pure ?_)
 show wpAny _ _ (call (.builtin "BaseException.__getattribute__") [.ref e,.str name s.toks]) _ _ _
 refine wpAny_call ?_
 refine codeAny_call_builtin ga.plain PySem.F.entry_bexc_ga ?_
 refine @check_slot (model prog w) _ _ { s with toks:=s.toks + 1 } "BaseException.__getattribute__" "BaseException" "__getattribute__" (.ref e) [.str name s.toks] [] _ (by decide +kernel) (by decide +kernel) ti (PySem.F.args_bexc_ga (.ref e) (.str name s.toks)) ?_
 obtain⟨hh',g,d,t,os⟩:=s
 unfold Builtin.«object.__getattribute__»
 refine wpAny_bind (wpAny_pure (a:=(Value.ref e,[Value.str name t])) ?_)
 refine wpAny_bind (wpAny_pure (a:=name) ?_)
 refine wpAny_bind (L0 _ _ _ _ (fun _ _ e=>e) (wpAny_bind (L1 _ _ _ _ (fun _ _ e=>e) (wpAny_pure ?_))))
 show wpAny _ _ (handedOut v) _ _ _
 rw[handedOut_of hv'];exact wpAny_pure h
end
def wu (K:PySem.W.Frag) (ta:TE) (f:Str):TE:=fun σ H Q=>ta σ H fun x H1=>∃ e C d fs v,x=.ref e∧H1 e=some (iI e (.ref C) (some d))∧H1 d=some (XdO d fs)∧t9 K C∧cf K C f∧fs.lookup f=some v∧Q v H1
section
variable {X:Cx} {o:Expr} {f:Str} {pos:Pos} {ta:TE}
theorem uX (he:PE X o ta) (hb:attributeBase o f X.env (eval o X.env)=eval o X.env):PE X (.Attribute o f pos) (wu X.K ta f):=by
 intro pins s σ H Q I h
 refine p_ hb (thn (he pins s σ H _ I h) fun u s1 ⟨x,H1,I1,rx,e,C,d,fs,v,ex,ee,ed,c,n,l,q⟩=>?_)
 subst ex
 obtain rfl:u=Value.ref e:=rx
 obtain⟨oe,vs,g,hc,hdx,hdt⟩:=ng I1.hok ee
 obtain⟨mA,nA,r,_⟩:=lA I1.hok ed
 have rf:=r f
 rw[l] at rf
 obtain⟨u,hu,ru⟩:=gz.some_of rf
 exact qW I1.kIn g hc hdx hdt nA c n hu (kU ru) ⟨v,H1,I1.tok _,ru,q⟩
end
end L2
namespace L2
open PySem PySem.Spec PyProof.Rows
structure XIs (K:PySem.W.Frag) (C:Addr):Prop extends t9 K C where
 ca:PySem.W.findIn K (.ref C) "__class__"=some (some (.builtin "object.__class__"))
 cg:PySem.W.specialIn K (.builtin "object.__class__") "__get__"=some (some (.builtin "getset_descriptor.__get__"))
 ct:PySem.W.takesIn K (.builtin "object.__class__")=some true
 ob:PySem.W.mroIn K C (.type "object")=some true
section
variable {prog:Program} {w:World} {A:Around} {E:Value→Shared→Prop} {s:Shared} {K:PySem.W.Frag} {e C:Addr} {oe od:Obj}
open PySem.W in
theorem nO {Q:Option Value→Shared→Prop} (c:XIs K C) (X:K.In s.heap) (I:InstAt s.heap e oe C (some od)) (h:Q (some (.ref C)) { s with toks:=s.toks + 1 }):wpAny (model prog w) A (getAttr? (.ref e) "__class__") Q E s:=by
 have hf:findObj K C (some od) "__class__"=some (.bind (.builtin "getset_descriptor.__get__") (.builtin "object.__class__")):=findObj_data (by obtain⟨cd,hc,_⟩:=any_some c.hd;rw[hc];rfl) c.ca c.cg c.ct
 have ti:Looks (model prog w) s.heap (isInstance (.ref e) (.type "BaseException")) true:=I.type.andThen (looks_mroIn X c.ex)
 have L0:=I.type (M:=model prog w)
 have L1:=looks_find (M:=model prog w) X I hf
 have hb:Looks (model prog w) s.heap (hookBefore (.ref C)) none:=looks_hook X (show (if true=true then findIn K (.ref C) "__getattr__" else some none)=some none from c.gh)
 have ga:=PySem.F.attr_ValueError.ga
 refine wpAny_bind (wpAny_mkText (wpAny_bind (wpAny_attempt (wpAny_holding (wpAny_bind (L0 _ _ _ _ (fun _ _ e=>e) (wpAny_bind (looks_findIn X c.ga _ _ _ _ (fun _ _ e=>e) ?_))))))))
 dsimp only
 rw[show (onTheHeap (Value.ref C) && Value.builtin "BaseException.__getattribute__" == Value.builtin "object.__getattribute__")=false from by rw[show (Value.builtin "BaseException.__getattribute__" == Value.builtin "object.__getattribute__")=false from by decide +kernel,Bool.and_false],if_neg (by decide)]
 refine wpAny_bind (hb _ _ _ _ (fun _ _ e=>e) ?_)
 refine wpAny_bind (wpAny_attempt (wpAny_holding ?_))
 unfold callGetattribute
 rw[if_neg (by decide)]
 unfold boundAndCalled
 rw[ga.bind]
 refine wpAny_bind (wpAny_pure ?_)
 show wpAny _ _ (call (.builtin "BaseException.__getattribute__") [.ref e,.str "__class__" s.toks]) _ _ _
 refine wpAny_call ?_
 refine codeAny_call_builtin ga.plain PySem.F.entry_bexc_ga ?_
 refine @check_slot (model prog w) _ _ { s with toks:=s.toks + 1 } "BaseException.__getattribute__" "BaseException" "__getattribute__" (.ref e) [.str "__class__" s.toks] [] _ (by decide +kernel) (by decide +kernel) ti (PySem.F.args_bexc_ga (.ref e) (.str "__class__" s.toks)) ?_
 obtain⟨hh',g,d,t,os⟩:=s
 unfold Builtin.«object.__getattribute__»
 refine wpAny_bind (wpAny_pure (a:=(Value.ref e,[Value.str "__class__" t])) ?_)
 refine wpAny_bind (wpAny_pure (a:=("__class__":Str)) ?_)
 refine wpAny_bind (L0 _ _ _ _ (fun _ _ e=>e) (wpAny_bind (L1 _ _ _ _ (fun _ _ e=>e) ?_)))
 show wpAny _ _ (Builtin.ObjectAttr.bindTo _ _ _ _) _ _ _
 unfold Builtin.ObjectAttr.bindTo
 refine wpAny_bind (wpAny_holding (wpAny_call (class_get (s:=⟨hh',g,d,t + 1,os⟩) (ox:=oe) (od:=some od) X I c.ob (wpAny_pure ?_))))
 show wpAny _ _ (handedOut (.ref C)) _ _ _
 exact handed_on rfl (wpAny_pure h)
open PySem.W in
theorem sX (c:XIs K C):KitX K (.ref e) (.ref C) (fun h=>InstAt h e oe C (some od)) where
 ty:=fun _ _ _ I=>I.type
 it:=fun _ _ X _=>by
  obtain⟨cdD,hcD,_⟩:=any_some c.hd
  obtain⟨_,_,_,ho⟩:=oW hcD
  intro A' Q' E' s' k q
  unfold isType loadHead
  refine wpAny_bind (wpAny_loadPart (k _ _ (X _ _ ho)) ?_)
  exact wpAny_pure q
 ne:=fun h tp dd its n sl X htp=>by
  obtain⟨cdD,hcD,_⟩:=any_some c.hd
  obtain⟨_,_,_,ho⟩:=oW hcD
  refine Bool.eq_false_iff.mpr fun q=>?_
  have e:C=tp:=Value.ref.inj (beq_iff_eq.mp q)
  subst e
  cases (X _ _ ho).symm.trans htp
 ca:=fun X I k=>nO c X I k
end
end L2
namespace L2
open PySem PySem.Spec PyProof.Rows
def vv:V→Value
 | .ref a=>.ref a
 | .ty n=>.type n
 | _=>.none
def isC:V→Bool
 | .ref _=>true
 | .ty _=>true
 | _=>false
theorem wq {x:V} {u:Value} (h:isC x=true) (r:RelV x u):u=vv x:=by
 cases x with
 | ref a=>exact r
 | ty n=>exact r
 | _=>cases h
section
variable {X:Cx}
theorem tQ:bQ X (.builtin "isinstance") (fun xs H Q=>∃ e C d fs c b,xs=[.ref e,c]∧H e=some (iI e (.ref C) (some d))∧H d=some (XdO d fs)∧XIs X.K C∧isC c=true∧PySem.W.kitOne X.K (.ref C) (vv c)=some b∧Q (.bl b) H):=by
 intro pins s σ H xs us Q I r h
 obtain⟨e,C,d,fs,c,b,rfl,he,hd,x,ic,k,q⟩:=h
 obtain⟨u,w',rfl,ru,rw'⟩:=vals2 r
 obtain rfl:u=Value.ref e:=ru
 obtain rfl:=wq ic rw'
 obtain⟨oe,vs,g,hc,hdx,hdt⟩:=ng I.hok he
 obtain⟨mA,nA,_⟩:=lA I.hok hd
 obtain⟨od,ho,_⟩:=gi nA
 have J:PySem.W.InstAt s.heap e oe C (some od):=⟨g,hc,by unfold PySem.W.notCls;rw[hdt],by rw[hdx];exact ho⟩
 exact PySem.W.kia_one (sX x) I.kIn J k (fun z=>nomatch z) fun tk=>⟨.bl b,H,I.tok _,rfl,q⟩
end
end L2
namespace L3
open PySem L2
inductive D where
 | non | bl (b:Bool) | int (i:Int) | str (x:Str) | lst (xs:List D) | tup (xs:List D) | ktup (xs:List D) | ins (C:Addr) (ns:List Str) (xs:List D) | scr (ns:List Int) | ty (n:String) | adr (a:Addr) | cel (p:Addr) (xs:List D) | exc (C:Addr) (ns:List Str) (xs:List D) | dct
mutual
def Rep (K:PySem.W.Frag) (F:Hp):D→V→Prop
 | .non,v=>v=.non
 | .bl b,v=>v=.bl b
 | .int i,v=>v=.int i
 | .str x,v=>v=.str x
 | .ty n,v=>v=.ty n
 | .adr a,v=>v=.ref a
 | .cel p xs,v=>v=.ref p∧∃ vs,F p=some (.lst vs)∧au K F xs vs
 | .scr ns,v=>∃ p,v=.ref p∧SqL K F p (ns.map V.int)
 | .lst xs,v=>∃ p vs,v=.ref p∧F p=some (.lst vs)∧au K F xs vs
 | .tup xs,v=>∃ p vs,v=.ref p∧F p=some (.tup vs)∧au K F xs vs
 | .ktup xs,v=>∃ p vs,v=.ref p∧SqT K F p vs∧au K F xs vs
 | .ins C ns xs,v=>∃ p dx gs,v=.ref p∧F p=some (.ins C dx gs)∧gs.map (·.1)=ns∧au K F xs (gs.map (·.2))
 | .dct,v=>∃ p,v=.ref p∧F p=some (.dK [])
 | .exc C ns xs,v=>∃ p d gs,v=.ref p∧F p=some (iI p (.ref C) (some d))∧F d=some (XdO d gs)∧gs.map (·.1)=ns∧au K F xs (gs.map (·.2))
def au (K:PySem.W.Frag) (F:Hp):List D→List V→Prop
 | [],vs=>vs=[]
 | x::xs,vs=>∃ v ws,vs=v::ws∧Rep K F x v∧au K F xs ws
end
theorem SqT.same {K:PySem.W.Frag} {H H':Hp} {a:Addr} {xs:List V} (e:aC H H') (h:SqT K H a xs):SqT K H' a xs:=by
 rcases h with (h | ⟨o,h⟩) | h
 ·exact .inl (.inl (e _ _ h))
 ·exact .inl (.inr ⟨o,e _ _ h⟩)
 ·exact .inr h
mutual
theorem Rep.mono {K:PySem.W.Frag} {F F':Hp} (e:aC F F'):∀ {d:D} {v:V},Rep K F d v→Rep K F' d v
 | .non,_,h=>h
 | .bl _,_,h=>h
 | .int _,_,h=>h
 | .str _,_,h=>h
 | .ty _,_,h=>h
 | .adr _,_,h=>h
 | .cel _ _,_,⟨h1,vs,h2,h3⟩=>⟨h1,vs,e _ _ h2,au.mono e h3⟩
 | .scr _,_,⟨p,h1,h2⟩=>⟨p,h1,e.seq h2⟩
 | .lst _,_,⟨p,vs,h1,h2,h3⟩=>⟨p,vs,h1,e _ _ h2,au.mono e h3⟩
 | .tup _,_,⟨p,vs,h1,h2,h3⟩=>⟨p,vs,h1,e _ _ h2,au.mono e h3⟩
 | .ktup _,_,⟨p,vs,h1,h2,h3⟩=>⟨p,vs,h1,SqT.same e h2,au.mono e h3⟩
 | .ins _ _ _,_,⟨p,dx,gs,h1,h2,h3,h4⟩=>⟨p,dx,gs,h1,e _ _ h2,h3,au.mono e h4⟩
 | .dct,_,⟨p,h1,h2⟩=>⟨p,h1,e _ _ h2⟩
 | .exc _ _ _,_,⟨p,dx,gs,h1,h2,h5,h3,h4⟩=>⟨p,dx,gs,h1,e _ _ h2,e _ _ h5,h3,au.mono e h4⟩
theorem au.mono {K:PySem.W.Frag} {F F':Hp} (e:aC F F'):∀ {xs:List D} {vs:List V},au K F xs vs→au K F' xs vs
 | [],_,h=>h
 | _::_,_,⟨v,ws,h1,h2,h3⟩=>⟨v,ws,h1,Rep.mono e h2,au.mono e h3⟩
end
end L3
namespace L3
open PySem L2
inductive Sl where
 | fz (d:D) | ow (d:D) | ln (d:D)
abbrev G:=List (Option Sl)
inductive RV where
 | fz (d:D) | fr (d:D) | two (xs ys:List D)
def RV.d:RV→D
 | .fz d=>d
 | .fr d=>d
 | .two xs ys=>.tup [.lst xs,.lst ys]
def RV.sl:RV→Sl
 | .fz d=>.fz d
 | .fr d=>.ow d
 | .two xs ys=>.fz (.tup [.lst xs,.lst ys])
structure Bs where
 F:Hp
 H:Hp
 own:List (Nat×Addr)
def Own (K:PySem.W.Frag) (F H:Hp) (p:Addr):D→Prop
 | .lst xs=>∃ vs,H p=some (.lst vs)∧au K F xs vs
 | .ins C ns xs=>∃ dx gs,H p=some (.ins C dx gs)∧gs.map (·.1)=ns∧au K F xs (gs.map (·.2))
 | _=>False
theorem Own.mono {K:PySem.W.Frag} {F F' H H':Hp} {p:Addr} (e:aC F F') (h:H' p=H p):∀ {d:D},Own K F H p d→Own K F' H' p d
 | .lst _,⟨vs,a,b⟩=>⟨vs,h.trans a,b.mono e⟩
 | .ins _ _ _,⟨dx,gs,a,b,c⟩=>⟨dx,gs,h.trans a,b,c.mono e⟩
theorem Own.some {K:PySem.W.Frag} {F H:Hp} {p:Addr}:∀ {d:D},Own K F H p d→∃ o,H p=some o
 | .lst _,⟨_,a,_⟩=>⟨_,a⟩
 | .ins _ _ _,⟨_,_,a,_⟩=>⟨_,a⟩
theorem Own.rep {K:PySem.W.Frag} {F H:Hp} {p:Addr} {o:HO} (hF:F p=none) (ho:H p=Option.some o):∀ {d:D},Own K F H p d→Rep K (upd F p o) d (.ref p)
 | .lst _,⟨vs,a,b⟩=>by
  rw[ho] at a;cases a
  exact⟨p,vs,rfl,ax,b.mono fun x u e=>by rw[ag (bz e hF)];exact e⟩
 | .ins _ _ _,⟨dx,gs,a,b,c⟩=>by
  rw[ho] at a;cases a
  exact⟨p,dx,gs,rfl,ax,b,c.mono fun x u e=>by rw[ag (bz e hF)];exact e⟩
def Hld (Γ:G) (i:Nat) (d:D):Prop:=Γ[i]?=some (some (Sl.ow d))∨Γ[i]?=some (some (Sl.ln d))
structure En (K:PySem.W.Frag) (B:Bs) (F:Hp) (σ:St) (H:Hp) (Γ:G):Prop where
 sub:aC F H
 len:σ.length=Γ.length
 fz:∀ (i:Nat) (d:D),Γ[i]?=some (some (Sl.fz d))→∃ v,σ[i]?=some (some v)∧Rep K F d v
 hl:∀ (i:Nat) (d:D),Hld Γ i d→∃ p,σ[i]?=some (some (V.ref p))∧F p=none∧Own K F H p d
 ow:∀ (i:Nat) (d:D) (p:Addr),Γ[i]?=some (some (Sl.ow d))→σ[i]?=some (some (V.ref p))→B.H p=none
 ln:∀ (i:Nat) (d:D) (p:Addr),Γ[i]?=some (some (Sl.ln d))→σ[i]?=some (some (V.ref p))→(i,p)∈B.own
 dis:∀ (i j:Nat) (d e:D) (p:Addr),Hld Γ i d→Hld Γ j e→σ[i]?=some (some (V.ref p))→σ[j]?=some (some (V.ref p))→i=j
 par:∀ (i:Nat) (p:Addr),(i,p)∈B.own→σ[i]?=some (some (V.ref p))∧∃ d,Γ[i]?=some (some (Sl.ln d))
 keep:aC B.F F
 new:∀ (b:Addr) (o:HO),F b=some o→B.F b=some o∨B.H b=none
 rest:∀ (b:Addr) (o:HO),B.H b=some o→(∀ i,(i,b)∉B.own)→H b=some o
 dom:∀ b,H b=none→B.H b=none
section
variable {K:PySem.W.Frag} {B:Bs} {F:Hp} {σ:St} {H:Hp} {Γ:G}
theorem En.alloc (e:En K B F σ H Γ) {l:Addr} (hl:H l=none) (o:HO):En K B F σ (upd H l o) Γ where
 sub:=fun b u h=>by rw[ag (bz (e.sub b u h) hl)];exact e.sub b u h
 len:=e.len
 fz:=e.fz
 hl:=fun i d h=>by
  obtain⟨p,h1,h2,h3⟩:=e.hl i d h
  obtain⟨u,hu⟩:=h3.some
  exact⟨p,h1,h2,h3.mono (aC.refl F) (ag (bz hu hl))⟩
 ow:=e.ow
 ln:=e.ln
 dis:=e.dis
 par:=e.par
 keep:=e.keep
 new:=e.new
 rest:=fun b u h n=>by rw[ag (bz (e.rest b u h n) hl)];exact e.rest b u h n
 dom:=fun b h=>by
  by_cases q:b=l
  ·subst q;exact e.dom _ hl
  ·rw[ag q] at h;exact e.dom b h
theorem aU {F:Hp} {l:Addr} {o:HO} (h:F l=none):aC F (upd F l o):=fun b u e=>by rw[ag (bz e h)];exact e
theorem En.freeze (e:En K B F σ H Γ) {l:Addr} {o:HO} (hF:F l=none) (hH:H l=some o) (hB:B.H l=none) (hn:∀ (i:Nat) (d:D),Hld Γ i d→σ[i]?≠some (some (V.ref l))):En K B (upd F l o) σ H Γ where
 sub:=fun b u h=>by
  by_cases q:b=l
  ·subst q;rw[ax] at h;cases h;exact hH
  ·rw[ag q] at h;exact e.sub b u h
 len:=e.len
 fz:=fun i d h=>by
  obtain⟨v,h1,h2⟩:=e.fz i d h
  exact⟨v,h1,h2.mono (aU hF)⟩
 hl:=fun i d h=>by
  obtain⟨p,h1,h2,h3⟩:=e.hl i d h
  have q:p≠l:=fun z=>hn i d h (z ▸ h1)
  exact⟨p,h1,by rw[ag q];exact h2,h3.mono (aU hF) rfl⟩
 ow:=e.ow
 ln:=e.ln
 dis:=e.dis
 par:=e.par
 keep:=e.keep.trans (aU hF)
 new:=fun b u h=>by
  by_cases q:b=l
  ·subst q;exact .inr hB
  ·rw[ag q] at h;exact e.new b u h
 rest:=e.rest
 dom:=e.dom
def e9 (K:PySem.W.Frag) (B:Bs) (F:Hp) (σ:St) (H:Hp) (Γ:G) (v:V):RV→Prop
 | .fz d=>Rep K F d v
 | .fr d=>∃ p,v=.ref p∧F p=none∧Own K F H p d∧B.H p=none∧∀ (i:Nat) (e:D),Hld Γ i e→σ[i]?≠some (some (V.ref p))
 | .two xs ys=>∃ t p q vs ws,v=.ref t∧H t=some (.tup [.ref p,.ref q])∧H p=some (.lst vs)∧H q=some (.lst ws)∧au K F xs vs∧au K F ys ws∧p≠q∧∀ z,z=t∨z=p∨z=q→F z=none∧B.H z=none∧∀ (i:Nat) (e:D),Hld Γ i e→σ[i]?≠some (some (V.ref z))
theorem En.frozen (e:En K B F σ H Γ) {v:V}:∀ {r:RV},e9 K B F σ H Γ v r→∃ F',aC F F'∧En K B F' σ H Γ∧Rep K F' r.d v
 | .fz d,h=>⟨F,aC.refl F,e,h⟩
 | .fr d,⟨p,hv,h1,h2,h3,h4⟩=>by
  subst hv
  obtain⟨o,ho⟩:=h2.some
  exact⟨upd F p o,aU h1,e.freeze h1 ho h3 h4,h2.rep h1 ho⟩
 | .two xs ys,⟨t,p,q,vs,ws,hv,h1,h2,h3,h4,h5,h6,h7⟩=>by
  subst hv
  obtain⟨a1,a2,a3⟩:=h7 t (.inl rfl)
  obtain⟨b1,b2,b3⟩:=h7 p (.inr (.inl rfl))
  obtain⟨c1,c2,c3⟩:=h7 q (.inr (.inr rfl))
  have tp:t≠p:=fun z=>by rw[z,h2] at h1;cases h1
  have tq:t≠q:=fun z=>by rw[z,h3] at h1;cases h1
  have e1:=e.freeze b1 h2 b2 b3
  have f2:upd F p (.lst vs) q=none:=by rw[ag (Ne.symm h6)];exact c1
  have e2:=e1.freeze f2 h3 c2 c3
  have f3:upd (upd F p (.lst vs)) q (.lst ws) t=none:=by rw[ag tq,ag tp];exact a1
  have e3:=e2.freeze f3 h1 a2 a3
  have s1:=aU (o:=.lst vs) b1
  have s2:=aU (o:=.lst ws) f2
  have s3:=aU (o:=.tup [.ref p,.ref q]) f3
  exact⟨_,(s1.trans s2).trans s3,e3,t,_,rfl,ax,⟨_,_,rfl,⟨p,vs,rfl,by rw[ag (Ne.symm tp),ag h6];exact ax,(h4.mono ((s1.trans s2).trans s3))⟩,_,_,rfl,⟨q,ws,rfl,by rw[ag (Ne.symm tq)];exact ax,h5.mono ((s1.trans s2).trans s3)⟩,rfl⟩⟩
theorem En.norm (e:En K B F σ H Γ) {v:V}:∀ {r:RV},e9 K B F σ H Γ v r→∃ F' r',aC F F'∧En K B F' σ H Γ∧e9 K B F' σ H Γ v r'∧r'.sl=r.sl∧∀ xs ys,r'≠.two xs ys
 | .fz d,h=>⟨F,.fz d,aC.refl F,e,h,rfl,nofun⟩
 | .fr d,h=>⟨F,.fr d,aC.refl F,e,h,rfl,nofun⟩
 | .two xs ys,h=>by
  obtain⟨F',s,e',r⟩:=e.frozen h
  exact⟨F',.fz (.tup [.lst xs,.lst ys]),s,e',r,rfl,nofun⟩
def Po (K:PySem.W.Frag) (B:Bs) (F:Hp) (σ:St) (Q:RV→G→Prop):VK:=fun v H'=>∃ F' Γ' r,aC F F'∧En K B F' σ H' Γ'∧e9 K B F' σ H' Γ' v r∧Q r Γ'
abbrev TE3:=G→(RV→G→Prop)→Prop
def Ref (K:PySem.W.Frag) (t:TE) (t3:TE3):Prop:=∀ (B:Bs) (F:Hp) (σ:St) (H:Hp) (Γ:G) (Q:RV→G→Prop) (QQ:VK),En K B F σ H Γ→t3 Γ Q→(∀ v H',Po K B F σ Q v H'→QQ v H')→t σ H QQ
theorem Po.mono {F F':Hp} {Q:RV→G→Prop} {v:V} {H:Hp} (s:aC F F') (h:Po K B F' σ Q v H):Po K B F σ Q v H:=by
 obtain⟨F2,Γ',r,a,b⟩:=h
 exact⟨F2,Γ',r,s.trans a,b⟩
theorem dk (e:En K B F σ H Γ) {Q:RV→G→Prop} {v:V} {d:D} (r:Rep K F d v) (q:Q (.fz d) Γ):Po K B F σ Q v H:=⟨F,Γ,.fz d,aC.refl F,e,r,q⟩
theorem En.oB (e:En K B F σ H Γ) {l:Addr} (hl:H l=none):∀ (i:Nat) (d:D),Hld Γ i d→σ[i]?≠some (some (V.ref l)):=fun i d h z=>by
 obtain⟨p,h1,h2,h3⟩:=e.hl i d h
 rw[h1] at z;cases z
 obtain⟨o,ho⟩:=h3.some
 rw[hl] at ho;cases ho
theorem En.nof (e:En K B F σ H Γ) {l:Addr} (hl:H l=none):F l=none:=by
 cases q:F l with
 | none=>rfl
 | some o=>have:=e.sub _ _ q;rw[hl] at this;cases this
theorem ig (e:En K B F σ H Γ) {Q:RV→G→Prop} {l:Addr} {vs:List V} {xs:List D} (hl:H l=none) (r:au K F xs vs) (q:Q (.fr (.lst xs)) Γ):Po K B F σ Q (.ref l) (upd H l (.lst vs)):=
 ⟨F,Γ,.fr (.lst xs),aC.refl F,e.alloc hl _,⟨l,rfl,e.nof hl,⟨vs,ax,r⟩,e.dom _ hl,e.oB hl⟩,q⟩
theorem pJ (e:En K B F σ H Γ) {Q:RV→G→Prop} {l:Addr} {vs:List V} {xs:List D} (hl:H l=none) (r:au K F xs vs) (q:Q (.fz (.tup xs)) Γ):Po K B F σ Q (.ref l) (upd H l (.tup vs)):=
 ⟨upd F l (.tup vs),Γ,.fz (.tup xs),aU (e.nof hl),(e.alloc hl _).freeze (e.nof hl) ax (e.dom _ hl) (e.oB hl),⟨l,vs,rfl,ax,r.mono (aU (e.nof hl))⟩,q⟩
def pA (i:Nat) (Γ:G) (Q:RV→G→Prop):Prop:=match Γ[i]? with
 | some (some (.fz d))=>Q (.fz d) Γ
 | some (some (.ow d))=>Q (.fz d) (Γ.set i (some (Sl.fz d)))
 | _=>False
theorem bL {α:Type} {l:List α} {i j:Nat} {a:α} (h:i≠j):(l.set i a)[j]?=l[j]?:=by rw[List.getElem?_set,if_neg h]
theorem j8 {α:Type} {l:List α} {i:Nat} {a b:α} (h:l[i]?=some b):(l.set i a)[i]?=some a:=by
 rw[List.getElem?_set,if_pos rfl,if_pos (List.getElem?_eq_some_iff.mp h).1]
theorem En.give (e:En K B F σ H Γ) {i:Nat} {d:D} (h:Γ[i]?=some (some (Sl.ow d))):∃ F' p,aC F F'∧σ[i]?=some (some (V.ref p))∧Rep K F' d (.ref p)∧En K B F' σ H (Γ.set i (some (Sl.fz d))):=by
 obtain⟨p,h1,h2,h3⟩:=e.hl i d (.inl h)
 obtain⟨o,ho⟩:=h3.some
 have hr:=h3.rep h2 ho
 have back:∀ {j u},j≠i→(Γ.set i (some (Sl.fz d)))[j]?=u→Γ[j]?=u:=fun hj q=>by rw[bL (Ne.symm hj)] at q;exact q
 have hld:∀ {j x},Hld (Γ.set i (some (Sl.fz d))) j x→j≠i∧Hld Γ j x:=fun {j x} q=>by
  by_cases z:j=i
  ·subst z
   rcases q with q | q <;> rw[j8 h] at q <;> cases q
  ·exact⟨z,q.imp (back z) (back z)⟩
 refine⟨upd F p o,p,aU h2,h1,hr,?_,?_,?_,?_,?_,?_,?_,?_,?_,?_,e.rest,e.dom⟩
 ·intro b u q
  by_cases z:b=p
  ·subst z;rw[ax] at q;cases q;exact ho
  ·rw[ag z] at q;exact e.sub b u q
 ·rw[List.length_set];exact e.len
 ·intro j x q
  by_cases z:j=i
  ·subst z
   rw[j8 h] at q;cases q
   exact⟨_,h1,hr⟩
  ·obtain⟨v,a,b⟩:=e.fz j x (back z q)
   exact⟨v,a,b.mono (aU h2)⟩
 ·intro j x q
  obtain⟨z,q⟩:=hld q
  obtain⟨p',a,b,c⟩:=e.hl j x q
  have ne:p'≠p:=fun y=>z (e.dis j i x d p q (.inl h) (y ▸ a) h1)
  exact⟨p',a,by rw[ag ne];exact b,c.mono (aU h2) rfl⟩
 ·intro j x p' q a
  obtain⟨z,_⟩:=hld (.inl q)
  exact e.ow j x p' (back z q) a
 ·intro j x p' q a
  obtain⟨z,_⟩:=hld (.inr q)
  exact e.ln j x p' (back z q) a
 ·intro j k x y p' q1 q2
  exact e.dis j k x y p' (hld q1).2 (hld q2).2
 ·intro j p' q
  obtain⟨a,y,b⟩:=e.par j p' q
  have z:j≠i:=fun z=>by subst z;rw[h] at b;cases b
  exact⟨a,y,by rw[bL (Ne.symm z)];exact b⟩
 ·exact e.keep.trans (aU h2)
 ·intro b u q
  by_cases z:b=p
  ·subst z;exact .inr (e.ow i d _ h h1)
  ·rw[ag z] at q;exact e.new b u q
theorem uF (i:Nat):Ref K (eY i) (pA i):=by
 intro B F σ H Γ Q QQ e h k
 unfold pA at h
 split at h
 ·rename_i d q
  obtain⟨v,h1,h2⟩:=e.fz i d q
  exact⟨v,h1,k _ _ (dk e h2 h)⟩
 ·rename_i d q
  obtain⟨F',p,s,h1,h2,e'⟩:=e.give q
  exact⟨_,h1,k _ _ ⟨F',_,.fz d,s,e',h2,h⟩⟩
 ·exact h.elim
def t3C (d:D) (Γ:G) (Q:RV→G→Prop):Prop:=Q (.fz d) Γ
theorem jV {v:V} {d:D} (h:∀ F,Rep K F d v):Ref K (tC v) (t3C d):=fun B F σ H Γ Q QQ e q k=>k _ _ (dk e (h F) q)
inductive Bo where
 | d (x:D) | v (i:Nat)
def Gat (Γ:G) (i:Nat):Option D:=match Γ[i]? with
 | some (some (.fz d))=>some d
 | some (some (.ow d))=>some d
 | some (some (.ln d))=>some d
 | _=>none
def Bo.at (Γ:G):Bo→Option D
 | .d x=>some x
 | .v i=>Gat Γ i
def jm (K:PySem.W.Frag) (F:Hp) (σ:St):Bo→V→Prop
 | .d x,v=>Rep K F x v
 | .v i,v=>σ[i]?=some (some v)
def dj (K:PySem.W.Frag) (F H:Hp):D→V→Prop
 | .lst xs,v=>∃ p vs,v=.ref p∧H p=some (.lst vs)∧au K F xs vs
 | .ins C ns xs,v=>∃ p dx gs,v=.ref p∧H p=some (.ins C dx gs)∧gs.map (·.1)=ns∧au K F xs (gs.map (·.2))
 | d,v=>Rep K F d v
theorem Rep.b {K:PySem.W.Frag} {F H:Hp} (s:aC F H):∀ {d:D} {v:V},Rep K F d v→dj K F H d v
 | .non,_,h=>h
 | .bl _,_,h=>h
 | .int _,_,h=>h
 | .str _,_,h=>h
 | .ty _,_,h=>h
 | .adr _,_,h=>h
 | .exc _ _ _,_,h=>h
 | .dct,_,h=>h
 | .cel _ _,_,h=>h
 | .scr _,_,h=>h
 | .tup _,_,h=>h
 | .ktup _,_,h=>h
 | .lst _,_,⟨p,vs,h1,h2,h3⟩=>⟨p,vs,h1,s _ _ h2,h3⟩
 | .ins _ _ _,_,⟨p,dx,gs,h1,h2,h3,h4⟩=>⟨p,dx,gs,h1,s _ _ h2,h3,h4⟩
theorem Own.b {K:PySem.W.Frag} {F H:Hp} {p:Addr}:∀ {d:D},Own K F H p d→dj K F H d (.ref p)
 | .lst _,⟨vs,h1,h2⟩=>⟨p,vs,rfl,h1,h2⟩
 | .ins _ _ _,⟨dx,gs,h1,h2,h3⟩=>⟨p,dx,gs,rfl,h1,h2,h3⟩
theorem jm.mono {F F':Hp} (s:aC F F'):∀ {bo:Bo} {v:V},jm K F σ bo v→jm K F' σ bo v
 | .d _,_,h=>Rep.mono s h
 | .v _,_,h=>h
theorem En.get (e:En K B F σ H Γ) {i:Nat} {d:D} (h:Gat Γ i=some d):∃ v,σ[i]?=some (some v)∧dj K F H d v:=by
 unfold Gat at h
 split at h
 ·cases h
  rename_i q
  obtain⟨v,h1,h2⟩:=e.fz i _ q
  exact⟨v,h1,h2.b e.sub⟩
 ·cases h
  rename_i q
  obtain⟨p,h1,h2,h3⟩:=e.hl i _ (.inl q)
  exact⟨_,h1,h3.b⟩
 ·cases h
  rename_i q
  obtain⟨p,h1,h2,h3⟩:=e.hl i _ (.inr q)
  exact⟨_,h1,h3.b⟩
 ·cases h
theorem En.bo (e:En K B F σ H Γ):∀ {bo:Bo} {v:V} {d:D},jm K F σ bo v→bo.at Γ=some d→dj K F H d v
 | .d x,v,d,h,q=>by cases q;exact Rep.b e.sub h
 | .v i,v,d,h,q=>by
  obtain⟨u,h1,h2⟩:=e.get q
  rw[show σ[i]?=some (some v) from h] at h1
  cases h1
  exact h2
abbrev TB3:=G→(Bo→G→Prop)→Prop
def PoB (K:PySem.W.Frag) (B:Bs) (F:Hp) (σ:St) (Q:Bo→G→Prop):VK:=fun v H'=>∃ F' Γ' bo,aC F F'∧En K B F' σ H' Γ'∧jm K F' σ bo v∧Q bo Γ'
def kA (K:PySem.W.Frag) (t:TE) (t3:TB3):Prop:=∀ (B:Bs) (F:Hp) (σ:St) (H:Hp) (Γ:G) (Q:Bo→G→Prop) (QQ:VK),En K B F σ H Γ→t3 Γ Q→(∀ v H',PoB K B F σ Q v H'→QQ v H')→t σ H QQ
def bor (i:Nat) (Γ:G) (Q:Bo→G→Prop):Prop:=(∃ d,Gat Γ i=some d)∧Q (.v i) Γ
def bof (a3:TE3) (Γ:G) (Q:Bo→G→Prop):Prop:=a3 Γ fun x Γ1=>Q (.d x.d) Γ1
theorem rH (i:Nat):kA K (eY i) (bor i):=by
 intro B F σ H Γ Q QQ e ⟨⟨d,hd⟩,q⟩ k
 obtain⟨v,h1,_⟩:=e.get hd
 exact⟨v,h1,k _ _ ⟨F,Γ,.v i,aC.refl F,e,h1,q⟩⟩
theorem uE {t:TE} {a3:TE3} (h:Ref K t a3):kA K t (bof a3):=by
 intro B F σ H Γ Q QQ e q k
 refine h B F σ H Γ _ _ e q (fun v H1 ⟨F1,Γ1,x,s1,e1,r1,q1⟩=>?_)
 obtain⟨F1',s1',e1',r1'⟩:=e1.frozen r1
 exact k _ _ ⟨F1',Γ1,.d x.d,s1.trans s1',e1',r1',q1⟩
def gH (K:PySem.W.Frag) (r:R2) (op:D→D→TE3):Prop:=∀ (B:Bs) (F:Hp) (σ:St) (H:Hp) (Γ:G) (x y:V) (dx dy:D) (Q:RV→G→Prop) (QQ:VK),En K B F σ H Γ→dj K F H dx x→dj K F H dy y→op dx dy Γ Q→(∀ v H',Po K B F σ Q v H'→QQ v H')→r x y H QQ
def iO (op:D→D→TE3) (a3 b3:TB3) (Γ:G) (Q:RV→G→Prop):Prop:=a3 Γ fun x Γ1=>b3 Γ1 fun y Γ2=>∃ dx dy,x.at Γ2=some dx∧y.at Γ2=some dy∧op dx dy Γ2 Q
theorem dr {r:R2} {ta tb:TE} {a3 b3:TB3} {op:D→D→TE3} (h:gH K r op) (ha:kA K ta a3) (hb:kA K tb b3):Ref K (tOp r ta tb) (iO op a3 b3):=by
 intro B F σ H Γ Q QQ e q k
 refine ha B F σ H Γ _ _ e q (fun v H1 ⟨F1,Γ1,x,s1,e1,r1,q1⟩=>?_)
 refine hb B F1 σ H1 Γ1 _ _ e1 q1 (fun u H2 ⟨F2,Γ2,y,s2,e2,r2,dx,dy,h1,h2,q2⟩=>?_)
 exact h B F2 σ H2 Γ2 v u dx dy Q QQ e2 (e2.bo (r1.mono s2) h1) (e2.bo r2 h2) q2 fun z H3 p=>k z H3 (p.mono (s1.trans s2))
def qm (op:D→TE3) (a3:TB3) (Γ:G) (Q:RV→G→Prop):Prop:=a3 Γ fun x Γ1=>∃ dx,x.at Γ1=some dx∧op dx Γ1 Q
def BJ (K:PySem.W.Frag) (r:V→Hp→VK→Prop) (op:D→TE3):Prop:=∀ (B:Bs) (F:Hp) (σ:St) (H:Hp) (Γ:G) (x:V) (dx:D) (Q:RV→G→Prop) (QQ:VK),En K B F σ H Γ→dj K F H dx x→op dx Γ Q→(∀ v H',Po K B F σ Q v H'→QQ v H')→r x H QQ
theorem oa {r:V→Hp→VK→Prop} {ta:TE} {a3:TB3} {op:D→TE3} (h:BJ K r op) (ha:kA K ta a3):Ref K (fun σ H Q=>ta σ H fun x H1=>r x H1 Q) (qm op a3):=by
 intro B F σ H Γ Q QQ e q k
 refine ha B F σ H Γ _ _ e q (fun v H1 ⟨F1,Γ1,x,s1,e1,r1,dx,h1,q1⟩=>?_)
 exact h B F1 σ H1 Γ1 v dx Q QQ e1 (e1.bo r1 h1) q1 fun z H3 p=>k z H3 (p.mono s1)
end
end L3
namespace L3
open PySem L2 PySem.Spec PyProof.Rows
structure P3 (K:PySem.W.Frag) (X:Cx) (e:Expr) (t:TE) (t3:TE3):Prop where
 pe:PE X e t
 rf:Ref K t t3
structure P3B (K:PySem.W.Frag) (X:Cx) (e:Expr) (t:TE) (t3:TB3):Prop where
 pe:PE X e t
 rf:kA K t t3
section
variable {K:PySem.W.Frag} {X:Cx} {a b c:Expr} {ta tb tc:TE} {a3 b3 c3:TB3} {pos:Pos}
theorem P3.opd {e3:TE3} (h:P3 K X a ta e3):P3B K X a ta (bof e3):=⟨h.pe,uE h.rf⟩
theorem bv (i:Nat) {x:Str} {pos:Pos} (hN:X.N[i]?=some x:=by rfl) (hv:Vis X.env.scope x:=by first | exact Or.inl rfl | exact Or.inr (Or.inl rfl) | exact Or.inr (Or.inr rfl)) (hd:(x == ("__debug__":Str))=false:=by decide)
  (hcd:(x == ("__classdict__":Str))=false:=by decide):P3B K X (.Name x pos) (eY i) (bor i):=⟨fk hN hv hd hcd,rH i⟩
theorem cM {B:Bs} {F:Hp} {σ:L2.St} {H:Hp} {Γ:G} {Q:RV→G→Prop} {i:Int} (e:En K B F σ H Γ) (q:Q (.fz (.int i)) Γ):Po K B F σ Q (.int i) H:=dk (d:=.int i) e rfl q
theorem gL {B:Bs} {F:Hp} {σ:L2.St} {H:Hp} {Γ:G} {Q:RV→G→Prop} {i:Str} (e:En K B F σ H Γ) (q:Q (.fz (.str i)) Γ):Po K B F σ Q (.str i) H:=dk (d:=.str i) e rfl q
theorem ij {B:Bs} {F:Hp} {σ:L2.St} {H:Hp} {Γ:G} {Q:RV→G→Prop} {i:Bool} (e:En K B F σ H Γ) (q:Q (.fz (.bl i)) Γ):Po K B F σ Q (.bl i) H:=dk (d:=.bl i) e rfl q
theorem p3v (i:Nat) {x:Str} {pos:Pos} (hN:X.N[i]?=some x:=by rfl) (hv:Vis X.env.scope x:=by first | exact Or.inl rfl | exact Or.inr (Or.inl rfl) | exact Or.inr (Or.inr rfl)) (hd:(x == ("__debug__":Str))=false:=by decide)
  (hcd:(x == ("__classdict__":Str))=false:=by decide):P3 K X (.Name x pos) (eY i) (pA i):=⟨fk hN hv hd hcd,uF i⟩
theorem af {i j pos}:P3 K X (.Constant (.int i) j pos) (tC (.int i)) (t3C (.int i)):=⟨oi,jV fun _=>rfl⟩
theorem dF {i j pos}:P3 K X (.Constant (.bool i) j pos) (tC (.bl i)) (t3C (.bl i)):=⟨AD,jV fun _=>rfl⟩
theorem om {j pos}:P3 K X (.Constant .none j pos) (tC .non) (t3C .non):=⟨yd,jV fun _=>rfl⟩
theorem b_ {x j pos}:P3 K X (.Constant (.str x) j pos) (tC (.str x)) (t3C (.str x)):=⟨rZ,jV fun _=>rfl⟩
theorem eg {x:Str} {i:Int} {pos:Pos} (hg:Gl X x) (hm:∃ t,X.mg x=some (.int i t)) (hd:(x == ("__debug__":Str))=false:=by decide):P3 K X (.Name x pos) (tC (.int i)) (t3C (.int i)):=
 ⟨let ⟨t,hm⟩:=hm;lQ (v:=.int i) hg hm ⟨t,rfl⟩ hd,jV fun _=>rfl⟩
theorem ve {x:Str} {i:Str} {pos:Pos} (hg:Gl X x) (hm:∃ t,X.mg x=some (.str i t)) (hd:(x == ("__debug__":Str))=false:=by decide):P3 K X (.Name x pos) (tC (.str i)) (t3C (.str i)):=
 ⟨let ⟨t,hm⟩:=hm;lQ (v:=.str i) hg hm ⟨t,rfl⟩ hd,jV fun _=>rfl⟩
theorem ft {x y v:Int} {j k:Nat} {pos pos' pos'':Pos} (h:x ^ y.toNat=v) (hc:ua x y):P3 K X (.BinOp (.Constant (.int x) j pos') .Pow (.Constant (.int y) k pos'') pos) (tOp (rI ua fun i j=>.int (i ^ j.toNat)) (tC (.int x)) (tC (.int y))) (t3C (.int v)):=
 ⟨jd sy oi oi,fun B F σ H Γ Q QQ e q k=>⟨x,y,rfl,rfl,hc,by show QQ (.int (x ^ y.toNat)) H;rw[h];exact k _ _ (cM e q)⟩⟩
def i2 (C:Int→Int→Prop) (f:Int→Int→D) (x y:D) (Γ:G) (Q:RV→G→Prop):Prop:=match x,y with
 | .int i,.int j=>C i j∧Q (.fz (f i j)) Γ
 | _,_=>False
def i2' (f:Int→Int→D) (x y:D) (Γ:G) (Q:RV→G→Prop):Prop:=match x,y with
 | .int i,.int j=>Q (.fz (f i j)) Γ
 | _,_=>False
theorem opI {C:Int→Int→Prop} {f:Int→Int→D} {g:Int→Int→V} (h:∀ F i j,Rep K F (f i j) (g i j)):gH K (rI C g) (i2 C f):=by
 intro B F σ H Γ x y dx dy Q QQ e rx ry q k
 unfold i2 at q
 split at q
 ·cases rx;cases ry
  exact⟨_,_,rfl,rfl,q.1,k _ _ (dk e (h F _ _) q.2)⟩
 ·exact q.elim
theorem oy {f:Int→Int→D} {g:Int→Int→V} (h:∀ F i j,Rep K F (f i j) (g i j)):gH K (rI0 g) (i2' f):=by
 intro B F σ H Γ x y dx dy Q QQ e rx ry q k
 unfold i2' at q
 split at q
 ·cases rx;cases ry
  exact⟨_,_,rfl,rfl,k _ _ (dk e (h F _ _) q)⟩
 ·exact q.elim
def wj (x y:D) (Γ:G) (Q:RV→G→Prop):Prop:=match x,y with
 | .int i,.int j=>Q (.fz (.int (i + j))) Γ
 | .lst xs,.lst ys=>xs.length + ys.length≤sizeLine∧Q (.fr (.lst (xs++ys))) Γ
 | .str i,.str j=>i.length + j.length≤sizeLine∧Q (.fz (.str (i++j))) Γ
 | _,_=>False
theorem au.length {F:Hp}:∀ {xs:List D} {vs:List V},au K F xs vs→vs.length=xs.length
 | [],_,h=>by cases h;rfl
 | _::_,_,⟨v,ws,h1,h2,h3⟩=>by subst h1;simp [h3.length]
theorem au.append {F:Hp}:∀ {xs ys:List D} {vs ws:List V},au K F xs vs→au K F ys ws→au K F (xs++ys) (vs++ws)
 | [],_,_,_,h,h'=>by cases h;exact h'
 | _::_,_,_,_,⟨v,ws,h1,h2,h3⟩,h'=>by subst h1;exact⟨v,_,rfl,h2,h3.append h'⟩
theorem au.get {F:Hp}:∀ {xs:List D} {vs:List V},au K F xs vs→∀ {i:Nat} {d:D},xs[i]?=some d→∃ v,vs[i]?=some v∧Rep K F d v
 | [],_,_,i,d,e=>by simp at e
 | x::xs,_,⟨v,ws,h1,h2,h3⟩,0,d,e=>by subst h1;simp at e;subst e;exact⟨v,rfl,h2⟩
 | x::xs,_,⟨v,ws,h1,h2,h3⟩,i + 1,d,e=>by
  subst h1
  obtain⟨u,a,b⟩:=h3.get (i:=i) (d:=d) (by simpa using e)
  exact⟨u,by simpa using a,b⟩
theorem au.vM {F:Hp}:∀ {xs:List D} {vs:List V},au K F xs vs→∀ {i:Nat} {v:V},vs[i]?=some v→∃ d,xs[i]?=some d∧Rep K F d v:=fun {xs vs} h {i v} e=>by
 have hi:i < vs.length:=(List.getElem?_eq_some_iff.mp e).1
 rw[h.length] at hi
 obtain⟨u,a,b⟩:=h.get (List.getElem?_eq_getElem hi)
 rw[e] at a;cases a
 exact⟨_,List.getElem?_eq_getElem hi,b⟩
theorem au.set {F:Hp} {d:D} {v:V} (r:Rep K F d v):∀ {xs:List D} {vs:List V} (n:Nat),au K F xs vs→au K F (xs.set n d) (vs.set n v)
 | [],_,_,h=>by cases h;simp [au]
 | x::xs,_,0,⟨u,ws,h1,h2,h3⟩=>by subst h1;exact⟨v,ws,rfl,r,h3⟩
 | x::xs,_,n + 1,⟨u,ws,h1,h2,h3⟩=>by subst h1;exact⟨u,_,rfl,h2,au.set r n h3⟩
theorem au.ints {F:Hp}:∀ (ns:List Int),au K F (ns.map D.int) (ns.map V.int)
 | []=>rfl
 | n::ns=>⟨_,_,rfl,rfl,au.ints ns⟩
abbrev uN:R2:=fun x y H Q=>rI0 (fun i j=>.int (i + j)) x y H Q∨Av x y H Q∨(∃ i j,x=.str i∧y=.str j∧i.length + j.length≤sizeLine∧Q (.str (i++j)) H)
theorem vm:OpR X (binaryOp .Add) uN:=yq.or (yp.or ou)
theorem addRef:gH K uN wj:=by
 intro B F σ H Γ x y dx dy Q QQ e rx ry q k
 unfold wj at q
 split at q
 ·cases rx;cases ry
  exact .inl ⟨_,_,rfl,rfl,k _ _ (cM e q)⟩
 ·obtain⟨p,vs,rfl,h1,h2⟩:=rx
  obtain⟨p',ws,rfl,h3,h4⟩:=ry
  refine .inr (.inl ⟨p,p',vs,ws,rfl,rfl,h1,h3,by rw[h2.length,h4.length];exact q.1,fun l hl=>k _ _ (ig e hl (h2.append h4) q.2)⟩)
 ·cases rx;cases ry
  exact .inr (.inr ⟨_,_,rfl,rfl,q.1,k _ _ (gL e q.2)⟩)
 ·exact q.elim
theorem bV (ha:P3B K X a ta a3) (hb:P3B K X b tb b3):P3 K X (.BinOp a .Add b pos) (tOp uN ta tb) (iO wj a3 b3):=⟨jd vm ha.pe hb.pe,dr addRef ha.rf hb.rf⟩
theorem fq (ha:P3B K X a ta a3) (hb:P3B K X b tb b3):P3 K X (.BinOp a .Sub b pos) (tOp (rI0 fun i j=>.int (i - j)) ta tb) (iO (i2' fun i j=>.int (i - j)) a3 b3):=⟨jd yk ha.pe hb.pe,dr (oy fun _ _ _=>rfl) ha.rf hb.rf⟩
theorem cN (ha:P3B K X a ta a3) (hb:P3B K X b tb b3):P3 K X (.BinOp a .Mult b pos) (tOp (rI ub fun i j=>.int (i * j)) ta tb) (iO (i2 ub fun i j=>.int (i * j)) a3 b3):=⟨jd ym ha.pe hb.pe,dr (opI fun _ _ _=>rfl) ha.rf hb.rf⟩
theorem jG (ha:P3B K X a ta a3) (hb:P3B K X b tb b3):P3 K X (.BinOp a .FloorDiv b pos) (tOp (rI zH fun i j=>.int (i / j)) ta tb) (iO (i2 zH fun i j=>.int (i / j)) a3 b3):=⟨jd vk ha.pe hb.pe,dr (opI fun _ _ _=>rfl) ha.rf hb.rf⟩
theorem d_ (ha:P3B K X a ta a3) (hb:P3B K X b tb b3):P3 K X (.BinOp a .Mod b pos) (tOp (rI (fun _ j=>0 < j) fun i j=>.int (i % j)) ta tb) (iO (i2 (fun _ j=>0 < j) fun i j=>.int (i % j)) a3 b3):=⟨jd yn ha.pe hb.pe,dr (opI fun _ _ _=>rfl) ha.rf hb.rf⟩
theorem pO (ha:P3B K X a ta a3) (hb:P3B K X b tb b3):P3 K X (.BinOp a .Pow b pos) (tOp (rI ua fun i j=>.int (i ^ j.toNat)) ta tb) (iO (i2 ua fun i j=>.int (i ^ j.toNat)) a3 b3):=⟨jd sy ha.pe hb.pe,dr (opI fun _ _ _=>rfl) ha.rf hb.rf⟩
def vV (f:Int→Int→Bool) (x y:D) (Γ:G) (Q:RV→G→Prop):Prop:=i2' (fun i j=>.bl (f i j)) x y Γ Q
abbrev CS (i j:Int):Bool:=decide (i < j)
abbrev iY (i j:Int):Bool:=decide (i≤j)
abbrev CT (i j:Int):Bool:=decide (j < i)
abbrev D9 (i j:Int):Bool:=decide (j≤i)
structure C3 (K:PySem.W.Frag) (X:Cx) (op:CmpOp) (r:R2) (o3:D→D→TE3):Prop where
 op:OpR X (compareOp op) r
 rf:gH K r o3
theorem t6:C3 K X .Lt (rI0 fun i j=>.bl (decide (i < j))) (vV CS):=⟨AH,oy fun _ _ _=>rfl⟩
theorem kd:C3 K X .LtE (rI0 fun i j=>.bl (decide (i≤j))) (vV iY):=⟨AI,oy fun _ _ _=>rfl⟩
theorem nB:C3 K X .Gt (rI0 fun i j=>.bl (decide (j < i))) (vV CT):=⟨AJ,oy fun _ _ _=>rfl⟩
def eqS:D→D→Option Bool
 | .int i,.int j=>some (decide (i=j))
 | .str i,.str j=>some (decide (i=j))
 | .bl i,.bl j=>some (decide (i=j))
 | .non,.non=>some true
 | .int _,.str _=>some false
 | .str _,.int _=>some false
 | .bl _,.str _=>some false
 | .str _,.bl _=>some false
 | .non,.int _=>some false
 | .int _,.non=>some false
 | .non,.str _=>some false
 | .str _,.non=>some false
 | .non,.bl _=>some false
 | .bl _,.non=>some false
 | _,_=>none
def eq3 (neg:Bool) (x y:D) (Γ:G) (Q:RV→G→Prop):Prop:=match eqS x y with
 | some k=>Q (.fz (.bl (neg ^^ k))) Γ
 | none=>False
theorem iR {op:CmpOp} {r:R2} {o3:D→D→TE3} (h:C3 K X op r o3) (ha:P3B K X a ta a3) (hb:P3B K X b tb b3) (hm:behindInMarks op b=false):P3 K X (.Compare a [op] [b] pos) (tOp r ta tb) (iO o3 a3 b3):=⟨u7 h.op ha.pe hb.pe hm,dr h.rf ha.rf hb.rf⟩
def jB (o3 o3':D→D→TE3) (a3 b3 c3:TB3) (Γ:G) (Q:RV→G→Prop):Prop:=a3 Γ fun x Γ1=>b3 Γ1 fun y Γ2=>∃ dx dy,x.at Γ2=some dx∧y.at Γ2=some dy∧o3 dx dy Γ2 fun z Γ3=>match z with
 | .fz (.bl true)=>c3 Γ3 fun w Γ4=>∃ dy dw,y.at Γ4=some dy∧w.at Γ4=some dw∧o3' dy dw Γ4 Q
 | .fz (.bl false)=>Q (.fz (.bl false)) Γ3
 | _=>False
theorem kK {r r':R2} {o3 o3':D→D→TE3} (h:gH K r o3) (h':gH K r' o3') (ha:kA K ta a3) (hb:kA K tb b3) (hc:kA K tc c3):Ref K (jT r r' ta tb tc) (jB o3 o3' a3 b3 c3):=by
 intro B F σ H Γ Q QQ e q k
 refine ha B F σ H Γ _ _ e q (fun v H1 ⟨F1,Γ1,x,s1,e1,r1,q1⟩=>?_)
 refine hb B F1 σ H1 Γ1 _ _ e1 q1 (fun u H2 ⟨F2,Γ2,y,s2,e2,r2,dx,dy,h1,h2,q2⟩=>?_)
 refine h B F2 σ H2 Γ2 v u dx dy _ _ e2 (e2.bo (r1.mono s2) h1) (e2.bo r2 h2) q2 fun z H3 ⟨F3,Γ3,z3,s3,e3,r3,q3⟩=>?_
 have sall:=(s1.trans s2).trans s3
 revert r3 q3
 split
 ·intro r3 q3
  refine⟨true,r3,?_⟩
  rw[if_pos rfl]
  refine hc B F3 σ H3 Γ3 _ _ e3 q3 (fun w H4 ⟨F4,Γ4,w3,s4,e4,r4,dy,dw,h3,h4,q4⟩=>?_)
  exact h' B F4 σ H4 Γ4 u w dy dw Q QQ e4 (e4.bo (r2.mono (s3.trans s4)) h3) (e4.bo r4 h4) q4 fun z H5 p=>k z H5 (p.mono (sall.trans s4))
 ·intro r3 q3
  refine⟨false,r3,?_⟩
  rw[if_neg (by simp)]
  exact k _ _ (Po.mono sall (ij e3 q3))
 ·intro _ q3;exact q3.elim
theorem su {op op':CmpOp} {r r':R2} {o3 o3':D→D→TE3} (h:C3 K X op r o3) (h':C3 K X op' r' o3') (ha:P3B K X a ta a3) (hb:P3B K X b tb b3) (hc:P3B K X c tc c3) (hm:lastMarks [op,op'] [b,c]=false:=by with_unfolding_all rfl) :
  P3 K X (.Compare a [op,op'] [b,c] pos) (jT r r' ta tb tc) (jB o3 o3' a3 b3 c3):=⟨r_ h.op h'.op ha.pe hb.pe hc.pe hm,kK h.rf h'.rf ha.rf hb.rf hc.rf⟩
def yz (x:D) (Γ:G) (Q:RV→G→Prop):Prop:=match x with
 | .int i=>Q (.fz (.int (-i))) Γ
 | _=>False
theorem sk (ha:P3B K X a ta a3):P3 K X (.UnaryOp .USub a pos) (tUn (rU fun i=>.int (-i)) ta) (qm yz a3):=⟨AA xq ha.pe,oa (r:=rU fun i=>.int (-i)) (ta:=ta) (by
 intro B F σ H Γ x dx Q QQ e rx q k
 unfold yz at q
 split at q
 ·cases rx
  exact⟨_,rfl,k _ _ (cM e q)⟩
 ·exact q.elim) ha.rf⟩
end
end L3
namespace L3
open PySem L2 PySem.Spec
abbrev TT3:=G→(Bool→G→Prop)→Prop
def PoT (K:PySem.W.Frag) (B:Bs) (F:Hp) (σ:L2.St) (Q:Bool→G→Prop):Bool→Hp→Prop:=fun b H'=>∃ F' Γ',aC F F'∧En K B F' σ H' Γ'∧Q b Γ'
def ki (K:PySem.W.Frag) (t:TT) (t3:TT3):Prop:=∀ (B:Bs) (F:Hp) (σ:L2.St) (H:Hp) (Γ:G) (Q:Bool→G→Prop) (QQ:Bool→Hp→Prop),En K B F σ H Γ→t3 Γ Q→(∀ b H',PoT K B F σ Q b H'→QQ b H')→t σ H QQ
structure P3T (K:PySem.W.Frag) (X:Cx) (e:Expr) (t:TT) (t3:TT3):Prop where
 pe:PT X e t
 rf:ki K t t3
structure P3W (K:PySem.W.Frag) (X:Cx) (e:Expr) (t:TT) (t3:TT3):Prop where
 pe:PW X e t
 rf:ki K t t3
section
variable {K:PySem.W.Frag} {X:Cx} {a b c:Expr} {ta tb tc:TE} {a3 b3 c3:TE3} {a3' b3' c3':TB3} {pos:Pos} {tA tB':TT} {A3 B3:TT3} {rest:List Expr}
def tst (a3:TE3) (Γ:G) (Q:Bool→G→Prop):Prop:=a3 Γ fun x Γ1=>match x.d with
 | .bl k=>Q k Γ1
 | _=>False
theorem PoT.mono {B:Bs} {F F':Hp} {σ:L2.St} {H:Hp} {Q:Bool→G→Prop} {k:Bool} (s:aC F F') (h:PoT K B F' σ Q k H):PoT K B F σ Q k H:=by
 obtain⟨F2,Γ',a,b⟩:=h
 exact⟨F2,Γ',s.trans a,b⟩
theorem rO (h:Ref K ta a3):ki K (fun σ H Q=>ta σ H fun x H1=>∃ c,x=.bl c∧Q c H1) (tst a3):=by
 intro B F σ H Γ Q QQ e q k
 refine h B F σ H Γ _ _ e q (fun v H1 ⟨F1,Γ1,x,s1,e1,r1,q1⟩=>?_)
 obtain⟨F1',s1',e1',r1'⟩:=e1.frozen r1
 revert r1' q1
 split
 ·rename_i hz
  intro q1 r1'
  rw[hz] at r1'
  exact⟨_,r1',k _ _ ⟨F1',Γ1,s1.trans s1',e1',q1⟩⟩
 ·intro q1;exact q1.elim
theorem bE {e:Expr} {t:TE} {e3:TE3} (h:P3 K X e t e3) (he:∀ whole,isTrue e X.env whole=(do let v ← whole;standAt e.pos;holding [v] (truthy v)):=by intro _;rfl):P3T K X e (tB t) (tst e3):=⟨xV h.pe he,rO h.rf⟩
theorem bc {op:CmpOp} {r:R2} {o3:D→D→TE3} (h:C3 K X op r o3) (ha:P3B K X a ta a3') (hb:P3B K X b tb b3') (hm:behindInMarks op b=false):P3T K X (.Compare a [op] [b] pos) (pq (tOp r ta tb)) (tst (iO o3 a3' b3')):=
 ⟨uP h.op ha.pe hb.pe hm,rO (dr h.rf ha.rf hb.rf)⟩
theorem kN {op op':CmpOp} {r r':R2} {o3 o3':D→D→TE3} (h:C3 K X op r o3) (h':C3 K X op' r' o3') (ha:P3B K X a ta a3') (hb:P3B K X b tb b3') (hc:P3B K X c tc c3') (hm:lastMarks [op,op'] [b,c]=false:=by with_unfolding_all rfl) :
  P3T K X (.Compare a [op,op'] [b,c] pos) (pq (jT r r' ta tb tc)) (tst (jB o3 o3' a3' b3' c3')):=⟨rT h.op h'.op ha.pe hb.pe hc.pe hm,rO (kK h.rf h'.rf ha.rf hb.rf hc.rf)⟩
def zA (A3 B3:TT3) (Γ:G) (Q:Bool→G→Prop):Prop:=A3 Γ fun c Γ1=>match c with
 | true=>B3 Γ1 Q
 | false=>Q false Γ1
def or3 (A3 B3:TT3) (Γ:G) (Q:Bool→G→Prop):Prop:=A3 Γ fun c Γ1=>match c with
 | true=>Q true Γ1
 | false=>B3 Γ1 Q
def yx (A3:TT3) (Γ:G) (Q:Bool→G→Prop):Prop:=A3 Γ fun c Γ1=>Q (!c) Γ1
theorem uJ (ha:ki K tA A3) (hb:ki K tB' B3):ki K (xC tA tB') (zA A3 B3):=by
 intro B F σ H Γ Q QQ e q k
 refine ha B F σ H Γ _ _ e q (fun c H1 ⟨F1,Γ1,s1,e1,q1⟩=>?_)
 cases c with
 | true=>exact vG (hb B F1 σ H1 Γ1 _ _ e1 q1 fun c H2 p=>k _ _ (p.mono s1))
 | false=>exact vH (k _ _ ⟨F1,Γ1,s1,e1,q1⟩)
theorem xQ (ha:ki K tA A3) (hb:ki K tB' B3):ki K (tOr tA tB') (or3 A3 B3):=by
 intro B F σ H Γ Q QQ e q k
 refine ha B F σ H Γ _ _ e q (fun c H1 ⟨F1,Γ1,s1,e1,q1⟩=>?_)
 cases c with
 | true=>exact vG (k _ _ ⟨F1,Γ1,s1,e1,q1⟩)
 | false=>exact vH (hb B F1 σ H1 Γ1 _ _ e1 q1 fun c H2 p=>k _ _ (p.mono s1))
theorem uH (ha:ki K tA A3):ki K (xA tA) (yx A3):=by
 intro B F σ H Γ Q QQ e q k
 exact ha B F σ H Γ _ _ e q (fun c H1 ⟨F1,Γ1,s1,e1,q1⟩=>k _ _ ⟨F1,Γ1,s1,e1,q1⟩)
theorem sf (ha:P3T K X a tA A3):P3W K X (.BoolOp .And [a] pos) tA A3:=⟨uO ha.pe,ha.rf⟩
theorem d7 (ha:P3T K X a tA A3):P3W K X (.BoolOp .Or [a] pos) tA A3:=⟨xT ha.pe,ha.rf⟩
theorem vb (ha:P3T K X a tA A3) (hb:P3W K X (.BoolOp .And (b::rest) pos) tB' B3):P3W K X (.BoolOp .And (a::b::rest) pos) (xC tA tB') (zA A3 B3):=⟨xU ha.pe hb.pe,uJ ha.rf hb.rf⟩
theorem d8 (ha:P3T K X a tA A3) (hb:P3W K X (.BoolOp .Or (b::rest) pos) tB' B3):P3W K X (.BoolOp .Or (a::b::rest) pos) (tOr tA tB') (or3 A3 B3):=⟨Aw ha.pe hb.pe,xQ ha.rf hb.rf⟩
theorem P3W.pt {e:Expr} (h:P3W K X e tA A3):P3T K X e tA A3:=⟨h.pe.pt,h.rf⟩
theorem bF (ha:P3T K X a tA A3):P3T K X (.UnaryOp .Not a pos) (xA tA) (yx A3):=⟨xW ha.pe,uH ha.rf⟩
def xj (a3 b3'':TE3) (Γ:G) (Q:RV→G→Prop):Prop:=a3 Γ fun x Γ1=>match x.d with
 | .bl true=>b3'' Γ1 Q
 | .bl false=>Q (.fz (.bl false)) Γ1
 | _=>False
def Cv (a3 b3'':TE3) (Γ:G) (Q:RV→G→Prop):Prop:=a3 Γ fun x Γ1=>match x.d with
 | .bl true=>Q (.fz (.bl true)) Γ1
 | .bl false=>b3'' Γ1 Q
 | _=>False
def AK (a3:TE3) (Γ:G) (Q:RV→G→Prop):Prop:=a3 Γ fun x Γ1=>match x.d with
 | .bl k=>Q (.fz (.bl (!k))) Γ1
 | _=>False
theorem sj {op} (h:P3 K X a ta a3):P3 K X (.BoolOp op [a] pos) ta a3:=⟨yc h.pe,h.rf⟩
theorem sv (ha:P3 K X a ta a3) (hb:P3 K X (.BoolOp .And (b::rest) pos) tb b3):P3 K X (.BoolOp .And (a::b::rest) pos) (wy ta tb) (xj a3 b3):=⟨yg ha.pe hb.pe,by
 intro B F σ H Γ Q QQ e q k
 refine ha.rf B F σ H Γ _ _ e q (fun v H1 ⟨F1,Γ1,x,s1,e1,r1,q1⟩=>?_)
 obtain⟨F1',s1',e1',r1'⟩:=e1.frozen r1
 revert r1' q1
 split
 ·rename_i hz
  intro q1 r1'
  rw[hz] at r1'
  exact⟨true,r1',vG (hb.rf B F1' σ H1 Γ1 _ _ e1' q1 fun v H2 p=>k _ _ (p.mono (s1.trans s1')))⟩
 ·rename_i hz
  intro q1 r1'
  rw[hz] at r1'
  exact⟨false,r1',vH (k _ _ (Po.mono (s1.trans s1') (ij e1' q1)))⟩
 ·intro q1;exact q1.elim⟩
def if3 (A3:TT3) (a3 b3:TE3) (Γ:G) (Q:RV→G→Prop):Prop:=A3 Γ fun c Γ1=>match c with
 | true=>a3 Γ1 Q
 | false=>b3 Γ1 Q
end
abbrev TA3:=G→(List D→G→Prop)→Prop
def PoA (K:PySem.W.Frag) (B:Bs) (F:Hp) (σ:L2.St) (Q:List D→G→Prop):List V→Hp→Prop:=fun vs H'=>∃ F' Γ' ds,aC F F'∧En K B F' σ H' Γ'∧au K F' ds vs∧Q ds Γ'
def zE (K:PySem.W.Frag) (t:TA) (t3:TA3):Prop:=∀ (B:Bs) (F:Hp) (σ:L2.St) (H:Hp) (Γ:G) (Q:List D→G→Prop) (QQ:List V→Hp→Prop),En K B F σ H Γ→t3 Γ Q→(∀ vs H',PoA K B F σ Q vs H'→QQ vs H')→t σ H QQ
structure P3A (K:PySem.W.Frag) (X:Cx) (es:List Expr) (t:TA) (t3:TA3):Prop where
 pe:PA X es t
 rf:zE K t t3
section
variable {K:PySem.W.Frag} {X:Cx} {e:Expr} {es:List Expr} {te:TE} {e3:TE3} {t:TA} {t3:TA3} {pos:Pos}
def sH (Γ:G) (Q:List D→G→Prop):Prop:=Q [] Γ
def gF (e3:TE3) (t3:TA3) (Γ:G) (Q:List D→G→Prop):Prop:=e3 Γ fun x Γ1=>t3 Γ1 fun xs Γ2=>Q (x.d::xs) Γ2
theorem aH:P3A K X [] jS sH:=⟨fm,fun B F σ H Γ Q QQ e q k=>k _ _ ⟨F,Γ,[],aC.refl F,e,rfl,q⟩⟩
theorem ah (ha:P3 K X e te e3) (hr:P3A K X es t t3) (hs:starEach (e::es) X.env=(false,eval e X.env)::starEach es X.env:=by rfl):P3A K X (e::es) (hX te t) (gF e3 t3):=⟨cJ ha.pe hr.pe hs,by
 intro B F σ H Γ Q QQ e q k
 refine ha.rf B F σ H Γ _ _ e q (fun v H1 ⟨F1,Γ1,x,s1,e1,r1,q1⟩=>?_)
 obtain⟨F1',s1',e1',r1'⟩:=e1.frozen r1
 refine hr.rf B F1' σ H1 Γ1 _ _ e1' q1 (fun vs H2 ⟨F2,Γ2,ds,s2,e2,r2,q2⟩=>?_)
 exact k _ _ ⟨F2,Γ2,x.d::ds,(s1.trans s1').trans s2,e2,⟨v,vs,rfl,r1'.mono s2,r2⟩,q2⟩⟩
def AQ (t3:TA3) (Γ:G) (Q:RV→G→Prop):Prop:=t3 Γ fun xs Γ1=>xs.length≤sizeLine∧Q (.fr (.lst xs)) Γ1
def rj (t3:TA3) (Γ:G) (Q:RV→G→Prop):Prop:=t3 Γ fun xs Γ1=>xs.length≤sizeLine∧Q (.fz (.tup xs)) Γ1
theorem dv (h:P3A K X es t t3):P3 K X (.List es pos) (zX t) (AQ t3):=⟨ye h.pe,by
 intro B F σ H Γ Q QQ e q k
 refine h.rf B F σ H Γ _ _ e q (fun vs H1 ⟨F1,Γ1,ds,s1,e1,r1,q1⟩=>?_)
 exact⟨by rw[r1.length];exact q1.1,fun p hp=>k _ _ (Po.mono s1 (ig e1 hp r1 q1.2))⟩⟩
theorem d9 {x1} (h:P3A K X es t t3):P3 K X (.Tuple es x1 pos) (zU t) (rj t3):=⟨yb h.pe,by
 intro B F σ H Γ Q QQ e q k
 refine h.rf B F σ H Γ _ _ e q (fun vs H1 ⟨F1,Γ1,ds,s1,e1,r1,q1⟩=>?_)
 exact⟨by rw[r1.length];exact q1.1,fun p hp=>k _ _ (Po.mono s1 (pJ e1 hp r1 q1.2))⟩⟩
end
abbrev eP:=G→(List Bo→G→Prop)→Prop
def bM (K:PySem.W.Frag) (F:Hp) (σ:L2.St):List Bo→List V→Prop
 | [],vs=>vs=[]
 | b::bs,vs=>∃ v ws,vs=v::ws∧jm K F σ b v∧bM K F σ bs ws
def jo (K:PySem.W.Frag) (F H:Hp):List D→List V→Prop
 | [],vs=>vs=[]
 | d::ds,vs=>∃ v ws,vs=v::ws∧dj K F H d v∧jo K F H ds ws
def ats (Γ:G):List Bo→Option (List D)
 | []=>some []
 | b::bs=>match b.at Γ,ats Γ bs with
  | some d,some ds=>some (d::ds)
  | _,_=>none
def De (K:PySem.W.Frag) (B:Bs) (F:Hp) (σ:L2.St) (Q:List Bo→G→Prop):List V→Hp→Prop:=fun vs H'=>∃ F' Γ' bs,aC F F'∧En K B F' σ H' Γ'∧bM K F' σ bs vs∧Q bs Γ'
def nJ (K:PySem.W.Frag) (t:TA) (t3:eP):Prop:=∀ (B:Bs) (F:Hp) (σ:L2.St) (H:Hp) (Γ:G) (Q:List Bo→G→Prop) (QQ:List V→Hp→Prop),En K B F σ H Γ→t3 Γ Q→(∀ vs H',De K B F σ Q vs H'→QQ vs H')→t σ H QQ
structure nL (K:PySem.W.Frag) (X:Cx) (es:List Expr) (t:TA) (t3:eP):Prop where
 pe:PA X es t
 rf:nJ K t t3
section
variable {K:PySem.W.Frag} {X:Cx} {e:Expr} {es:List Expr} {te:TE} {e3:TB3} {t:TA} {t3:eP} {pos:Pos} {B:Bs} {F H:Hp} {σ:L2.St} {Γ:G}
theorem En.bos (e:En K B F σ H Γ):∀ {bs:List Bo} {vs:List V} {ds:List D},bM K F σ bs vs→ats Γ bs=some ds→jo K F H ds vs
 | [],_,_,h,q=>by cases q;exact h
 | b::bs,_,_,⟨v,ws,h1,h2,h3⟩,q=>by
  unfold ats at q
  split at q
  ·rename_i d ds hd hds
   cases q
   exact⟨v,ws,h1,e.bo h2 hd,e.bos h3 hds⟩
  ·cases q
def yy (Γ:G) (Q:List Bo→G→Prop):Prop:=Q [] Γ
def w9 (e3:TB3) (t3:eP) (Γ:G) (Q:List Bo→G→Prop):Prop:=e3 Γ fun x Γ1=>t3 Γ1 fun xs Γ2=>Q (x::xs) Γ2
theorem ae:nL K X [] jS yy:=⟨fm,fun B F σ H Γ Q QQ e q k=>k _ _ ⟨F,Γ,[],aC.refl F,e,rfl,q⟩⟩
theorem aa (ha:P3B K X e te e3) (hr:nL K X es t t3) (hs:starEach (e::es) X.env=(false,eval e X.env)::starEach es X.env:=by rfl):nL K X (e::es) (hX te t) (w9 e3 t3):=⟨cJ ha.pe hr.pe hs,by
 intro B F σ H Γ Q QQ e q k
 refine ha.rf B F σ H Γ _ _ e q (fun v H1 ⟨F1,Γ1,x,s1,e1,r1,q1⟩=>?_)
 refine hr.rf B F1 σ H1 Γ1 _ _ e1 q1 (fun vs H2 ⟨F2,Γ2,ds,s2,e2,r2,q2⟩=>?_)
 exact k _ _ ⟨F2,Γ2,x::ds,s1.trans s2,e2,⟨v,vs,rfl,r1.mono s2,r2⟩,q2⟩⟩
def qc (K:PySem.W.Frag) (r:List V→Hp→VK→Prop) (c3:List D→TE3):Prop:=∀ (B:Bs) (F:Hp) (σ:L2.St) (H:Hp) (Γ:G) (vs:List V) (ds:List D) (Q:RV→G→Prop) (QQ:VK),En K B F σ H Γ→jo K F H ds vs→c3 ds Γ Q→(∀ v H',Po K B F σ Q v H'→QQ v H')→r vs H QQ
def ny (c3:List D→TE3) (t3:eP) (Γ:G) (Q:RV→G→Prop):Prop:=t3 Γ fun bs Γ1=>∃ ds,ats Γ1 bs=some ds∧c3 ds Γ1 Q
theorem rM {r:List V→Hp→VK→Prop} {c3:List D→TE3} (h:qc K r c3) (ha:nJ K t t3):Ref K (tCB r t) (ny c3 t3):=by
 intro B F σ H Γ Q QQ e q k
 refine ha B F σ H Γ _ _ e q (fun vs H1 ⟨F1,Γ1,bs,s1,e1,r1,ds,hd,q1⟩=>?_)
 exact h B F1 σ H1 Γ1 vs ds Q QQ e1 (e1.bos r1 hd) q1 fun v H2 p=>k _ _ (p.mono s1)
structure B3 (K:PySem.W.Frag) (X:Cx) (f:Value) (r:List V→Hp→VK→Prop) (c3:List D→TE3):Prop where
 op:bQ X f r
 rf:qc K r c3
variable {x:Str} {p:Pos} {id T:String} {r:List V→Hp→VK→Prop} {c3:List D→TE3}
theorem av (hc:B3 K X (.builtin id) r c3) (hg:Gl X x) (hm:X.mg x=none) (hv:bootBuiltins x=some (.builtin id)) (ha:nL K X (e::es) t t3) (hn:x≠"__name__":=by decide) (hdb:(x == ("__debug__":Str))=false:=by decide)
  (he:starEach (e::es) X.env=(false,eval e X.env)::starEach es X.env:=by rfl) (hpl:(backTo pos (starEach es X.env)).any (·.1)=false:=by rfl):P3 K X (.Call (.Name x p) (e::es) [] pos) (tCB r t) (ny c3 t3):=
 ⟨se hc.op hg hm hv ha.pe hn hdb he hpl,rM hc.rf ha.rf⟩
theorem cF (hc:B3 K X (.type T) r c3) (hg:Gl X x) (hm:X.mg x=none) (hv:bootBuiltins x=some (.type T)) (ha:nL K X (e::es) t t3) (hn:x≠"__name__":=by decide) (hdb:(x == ("__debug__":Str))=false:=by decide)
  (he:starEach (e::es) X.env=(false,eval e X.env)::starEach es X.env:=by rfl) (hpl:(backTo pos (starEach es X.env)).any (·.1)=false:=by rfl):P3 K X (.Call (.Name x p) (e::es) [] pos) (tCB r t) (ny c3 t3):=
 ⟨qy hc.op hg hm hv ha.pe hn hdb he hpl,rM hc.rf ha.rf⟩
def zC (ds:List D) (Γ:G) (Q:RV→G→Prop):Prop:=match ds with
 | [.int i]=>Q (.fz (.int (if i < 0 then -i else i))) Γ
 | _=>False
def mx3 (f:Int→Int→Int) (ds:List D) (Γ:G) (Q:RV→G→Prop):Prop:=match ds with
 | [.int i,.int j]=>Q (.fz (.int (f i j))) Γ
 | _=>False
theorem jo.one {d:D} {vs:List V} (h:jo K F H [d] vs):∃ v,vs=[v]∧dj K F H d v:=by
 obtain⟨v,ws,rfl,h1,h2⟩:=h
 cases h2
 exact⟨v,rfl,h1⟩
theorem jo.two {d e:D} {vs:List V} (h:jo K F H [d,e] vs):∃ v w,vs=[v,w]∧dj K F H d v∧dj K F H e w:=by
 obtain⟨v,ws,rfl,h1,h2⟩:=h
 obtain⟨w,rfl,h3⟩:=jo.one h2
 exact⟨v,w,rfl,h1,h3⟩
theorem By:B3 K X (.builtin "abs") (fun xs H Q=>∃ i,xs=[.int i]∧Q (.int (if i < 0 then -i else i)) H) zC:=⟨tX,by
 intro B F σ H Γ vs ds Q QQ e r q k
 unfold zC at q
 split at q
 ·obtain⟨v,rfl,h⟩:=r.one
  cases h
  exact⟨_,rfl,k _ _ (cM e q)⟩
 ·exact q.elim⟩
abbrev fmax (i j:Int):Int:=if j > i then j else i
abbrev fmin (i j:Int):Int:=if j < i then j else i
theorem xc (hc:X.calm=true):B3 K X (.builtin "max") (fun xs H Q=>∃ i j,xs=[.int i,.int j]∧Q (.int (if j > i then j else i)) H) (mx3 fmax):=⟨qN hc,by
 intro B F σ H Γ vs ds Q QQ e r q k
 unfold mx3 at q
 split at q
 ·obtain⟨v,w,rfl,h,h'⟩:=r.two
  cases h;cases h'
  exact⟨_,_,rfl,k _ _ (cM e q)⟩
 ·exact q.elim⟩
theorem xb (hc:X.calm=true):B3 K X (.builtin "min") (fun xs H Q=>∃ i j,xs=[.int i,.int j]∧Q (.int (if j < i then j else i)) H) (mx3 fmin):=⟨qM hc,by
 intro B F σ H Γ vs ds Q QQ e r q k
 unfold mx3 at q
 split at q
 ·obtain⟨v,w,rfl,h,h'⟩:=r.two
  cases h;cases h'
  exact⟨_,_,rfl,k _ _ (cM e q)⟩
 ·exact q.elim⟩
def yV (ds:List D) (Γ:G) (Q:RV→G→Prop):Prop:=match ds with
 | [.int i]=>Q (.fz (.int i)) Γ
 | [.bl k]=>Q (.fz (.int (if k then 1 else 0))) Γ
 | _=>False
theorem Bx:B3 K X (.type "int") (fun xs H Q=>(∃ i,xs=[.int i]∧Q (.int i) H)∨∃ k,xs=[.bl k]∧Q (.int (if k then 1 else 0)) H) yV:=⟨qP,by
 intro B F σ H Γ vs ds Q QQ e r q k
 unfold yV at q
 split at q
 ·obtain⟨v,rfl,h⟩:=r.one
  cases h
  exact .inl ⟨_,rfl,k _ _ (cM e q)⟩
 ·obtain⟨v,rfl,h⟩:=r.one
  cases h
  exact .inr ⟨_,rfl,k _ _ (cM e q)⟩
 ·exact q.elim⟩
def vC:D→Option Nat
 | .lst xs=>some xs.length
 | .tup xs=>some xs.length
 | .ktup xs=>some xs.length
 | .scr ns=>some ns.length
 | _=>none
def yF (ds:List D) (Γ:G) (Q:RV→G→Prop):Prop:=match ds with
 | [.str z]=>z.length≤sizeLine∧Q (.fz (.int z.length)) Γ
 | [d]=>∃ n,vC d=some n∧Q (.fz (.int n)) Γ
 | _=>False
abbrev Cp (K:PySem.W.Frag):List V→Hp→VK→Prop:=fun xs H Q=>(∃ p ys,xs=[.ref p]∧(SqL K H p ys∨SqT K H p ys)∧Q (.int ys.length) H)∨(∃ z,xs=[.str z]∧z.length≤sizeLine∧Q (.int z.length) H)
theorem bQ.or' {f:Value} {r r':List V→Hp→VK→Prop} (h:bQ X f r) (h':bQ X f r'):bQ X f (fun xs H Q=>r xs H Q∨r' xs H Q):=by
 intro pins s σ H xs us Q I rx q
 rcases q with q | q
 ·exact h pins s σ H xs us Q I rx q
 ·exact h' pins s σ H xs us Q I rx q
theorem vB {d:D} {v:V} {n:Nat} (s:aC F H) (h:dj K F H d v) (hn:vC d=some n):∃ p ys,v=.ref p∧(SqL K H p ys∨SqT K H p ys)∧ys.length=n:=by
 unfold vC at hn
 split at hn
 ·cases hn
  obtain⟨p,vs,rfl,h1,h2⟩:=h
  exact⟨p,vs,rfl,.inl (SqL.of h1),h2.length⟩
 ·cases hn
  obtain⟨p,vs,rfl,h1,h2⟩:=h
  exact⟨p,vs,rfl,.inr (.inl (.inl (s _ _ h1))),h2.length⟩
 ·cases hn
  obtain⟨p,vs,rfl,h1,h2⟩:=h
  exact⟨p,vs,rfl,.inr (SqT.same s h1),h2.length⟩
 ·cases hn
  obtain⟨p,rfl,h1⟩:=h
  exact⟨p,_,rfl,.inl (s.seq h1),by simp⟩
 ·cases hn
theorem jk (hK:X.K=K):B3 K X (.builtin "len") (Cp K) yF:=⟨by subst hK;exact bQ.or' mw mv,by
 intro B F σ H Γ vs ds Q QQ e r q k
 unfold yF at q
 split at q
 ·obtain⟨v,rfl,h⟩:=r.one
  cases h
  exact .inr ⟨_,rfl,q.1,k _ _ (cM e q.2)⟩
 ·obtain⟨v,rfl,h⟩:=r.one
  obtain⟨n,hn,q⟩:=q
  obtain⟨p,ys,rfl,hs,hl⟩:=vB e.sub h hn
  subst hl
  exact .inl ⟨p,ys,rfl,hs,k _ _ (cM e q)⟩
 ·exact q.elim⟩
end
end L3
namespace L3
open PySem L2 PySem.Spec
section
variable {K:PySem.W.Frag} {X:Cx} {a b c:Expr} {ta tb tc:TE} {a3 b3 c3:TB3} {pos:Pos} {B:Bs} {F H:Hp} {σ:L2.St} {Γ:G}
theorem au.atI {xs:List D} {vs:List V} (h:au K F xs vs) {i:Int} {d:D} (e:atI xs i=some d):∃ v,L2.atI vs i=some v∧Rep K F d v:=by
 unfold L2.atI at e ⊢
 rw[h.length]
 cases q:ixN xs.length i with
 | none=>rw[q] at e;cases e
 | some j=>
  rw[q] at e
  exact h.get e
def ix3 (x y:D) (Γ:G) (Q:RV→G→Prop):Prop:=match x,y with
 | .lst xs,.int i=>∃ d,atI xs i=some d∧Q (.fz d) Γ
 | .tup xs,.int i=>∃ d,atI xs i=some d∧Q (.fz d) Γ
 | .ktup xs,.int i=>∃ d,atI xs i=some d∧Q (.fz d) Γ
 | .scr ns,.int i=>∃ n,atI ns i=some n∧Q (.fz (.int n)) Γ
 | .str z,.int i=>z.length≤sizeLine∧∃ c,atI z.cps.toList i=some c∧Q (.fz (.str ⟨#[c]⟩)) Γ
 | _,_=>False
theorem wa {α β:Type} {f:α→β} {xs:List α} {i:Int} {d:α} (e:atI xs i=some d):atI (xs.map f) i=some (f d):=by
 unfold L2.atI at e ⊢
 rw[List.length_map]
 cases q:ixN xs.length i with
 | none=>rw[q] at e;cases e
 | some j=>
  rw[q] at e
  show (xs.map f)[j]?=_
  rw[List.getElem?_map,show xs[j]?=some d from e]
  rfl
theorem AW:gH K (rIx K) ix3:=by
 intro B F σ H Γ x y dx dy Q QQ e rx ry q k
 unfold ix3 at q
 split at q
 ·obtain⟨d,hd,q⟩:=q
  obtain⟨p,vs,rfl,h1,h2⟩:=rx
  cases ry
  obtain⟨v,hv,r⟩:=h2.atI hd
  exact .inl ⟨p,vs,_,v,rfl,rfl,SqL.of h1,hv,k _ _ (dk e r q)⟩
 ·obtain⟨d,hd,q⟩:=q
  obtain⟨p,vs,rfl,h1,h2⟩:=rx
  cases ry
  obtain⟨v,hv,r⟩:=h2.atI hd
  exact .inr (.inl ⟨p,vs,_,v,rfl,rfl,.inl (.inl (e.sub _ _ h1)),hv,k _ _ (dk e r q)⟩)
 ·obtain⟨d,hd,q⟩:=q
  obtain⟨p,vs,rfl,h1,h2⟩:=rx
  cases ry
  obtain⟨v,hv,r⟩:=h2.atI hd
  exact .inr (.inl ⟨p,vs,_,v,rfl,rfl,SqT.same e.sub h1,hv,k _ _ (dk e r q)⟩)
 ·obtain⟨d,hd,q⟩:=q
  obtain⟨p,rfl,h1⟩:=rx
  cases ry
  exact .inl ⟨p,_,_,.int d,rfl,rfl,e.sub.seq h1,wa hd,k _ _ (cM e q)⟩
 ·cases rx;cases ry
  obtain⟨hz,c,hc,q⟩:=q
  exact .inr (.inr ⟨_,_,c,rfl,rfl,hz,hc,k _ _ (gL e q)⟩)
 ·exact q.elim
theorem b7 (hK:X.K=K) (ha:P3B K X a ta a3) (hb:P3B K X b tb b3) (hs:qb b):P3 K X (.Subscript a b pos) (tOp (rIx K) ta tb) (iO ix3 a3 b3):=⟨AB (by subst hK;exact yN) ha.pe hb.pe hs,dr AW ha.rf hb.rf⟩
def cut {α:Type} (xs:List α) (lo hi:Option Int):List α:=(xs.drop (HT.sIx xs.length 0 lo)).take (HT.sIx xs.length xs.length hi - HT.sIx xs.length 0 lo)
def pk {α:Type} (xs:List α) (lo hi st:Option Int):List α:=(sliceRange (sliceBounds lo hi st xs.length).1 (sliceBounds lo hi st xs.length).2.1 (sliceBounds lo hi st xs.length).2.2).filterMap (xs[·]?)
abbrev TO3:=G→(Option Int→G→Prop)→Prop
def Dd (K:PySem.W.Frag) (t:TO) (t3:TO3):Prop:=∀ (B:Bs) (F:Hp) (σ:L2.St) (H:Hp) (Γ:G) (Q:Option Int→G→Prop) (QQ:Option Int→Hp→Prop),En K B F σ H Γ→t3 Γ Q→(∀ o H',(∃ F' Γ',aC F F'∧En K B F' σ H' Γ'∧Q o Γ')→QQ o H')→t σ H QQ
structure P3O (K:PySem.W.Frag) (X:Cx) (e:Option Expr) (t:TO) (t3:TO3):Prop where
 pe:PO X e t
 rf:Dd K t t3
def AL (Γ:G) (Q:Option Int→G→Prop):Prop:=Q none Γ
def z9 (a3:TB3) (Γ:G) (Q:Option Int→G→Prop):Prop:=a3 Γ fun x Γ1=>∃ i,x.at Γ1=some (.int i)∧Q (some i) Γ1
def sl3 (a3:TB3) (l3 h3:TO3) (Γ:G) (Q:RV→G→Prop):Prop:=a3 Γ fun x Γ1=>l3 Γ1 fun lo Γ2=>h3 Γ2 fun hi Γ3=>∃ xs,x.at Γ3=some (.lst xs)∧Q (.fr (.lst (cut xs lo hi))) Γ3
def Ci (a3:TB3) (l3 h3:TO3) (Γ:G) (Q:RV→G→Prop):Prop:=a3 Γ fun x Γ1=>l3 Γ1 fun lo Γ2=>h3 Γ2 fun hi Γ3=>∃ xs,x.at Γ3=some (.tup xs)∧¬ (HT.sIx xs.length 0 lo=0∧HT.sIx xs.length xs.length hi=xs.length)∧Q (.fz (.tup (cut xs lo hi))) Γ3
def Cj (a3:TB3) (l3 h3 s3:TO3) (Γ:G) (Q:RV→G→Prop):Prop:=a3 Γ fun x Γ1=>l3 Γ1 fun lo Γ2=>h3 Γ2 fun hi Γ3=>s3 Γ3 fun st Γ4=>st≠some 0∧∃ xs,x.at Γ4=some (.lst xs)∧Q (.fr (.lst (pk xs lo hi st))) Γ4
def j5:D→Option (List D)
 | .lst xs=>some xs
 | .tup xs=>some xs
 | .ktup xs=>some xs
 | .scr ns=>some (ns.map .int)
 | _=>none
theorem qG {d:D} {v:V} {xs:List D} (s:aC F H) (h:dj K F H d v) (hn:j5 d=some xs):∃ p ys,v=.ref p∧(SqL K H p ys∨SqT K H p ys)∧au K F xs ys:=by
 unfold j5 at hn
 split at hn
 ·cases hn
  obtain⟨p,vs,rfl,h1,h2⟩:=h
  exact⟨p,vs,rfl,.inl (SqL.of h1),h2⟩
 ·cases hn
  obtain⟨p,vs,rfl,h1,h2⟩:=h
  exact⟨p,vs,rfl,.inr (.inl (.inl (s _ _ h1))),h2⟩
 ·cases hn
  obtain⟨p,vs,rfl,h1,h2⟩:=h
  exact⟨p,vs,rfl,.inr (SqT.same s h1),h2⟩
 ·cases hn
  obtain⟨p,rfl,h1⟩:=h
  exact⟨p,_,rfl,.inl (s.seq h1),au.ints _⟩
 ·cases hn
def sR (ds:List D) (Γ:G) (Q:RV→G→Prop):Prop:=match ds with
 | [d]=>∃ xs,j5 d=some xs∧Q (.fr (.lst xs)) Γ
 | _=>False
theorem tZ (hK:X.K=K):B3 K X (.type "list") (fun xs H Q=>∃ p ys,xs=[.ref p]∧(SqL K H p ys∨SqT K H p ys)∧∀ l,H l=none→Q (.ref l) (upd H l (.lst ys))) sR:=⟨by subst hK;exact mr,by
 intro B F σ H Γ vs ds Q QQ e r q k
 unfold sR at q
 split at q
 ·obtain⟨v,rfl,h⟩:=r.one
  obtain⟨xs,hn,q⟩:=q
  obtain⟨p,ys,rfl,hs,hl⟩:=qG e.sub h hn
  exact⟨p,ys,rfl,hs,fun l hf=>k _ _ (ig e hf hl q)⟩
 ·exact q.elim⟩
def nW (ds:List D) (Γ:G) (Q:RV→G→Prop):Prop:=match ds with
 | [.lst xs]=>Q (.fz (.tup xs)) Γ
 | _=>False
theorem p8 (hK:X.K=K):B3 K X (.type "tuple") (fun xs H Q=>∃ p ys,xs=[.ref p]∧((SqL K H p ys∧∀ l,H l=none→Q (.ref l) (upd H l (.tup ys)))∨(SqT K H p ys∧Q (.ref p) H))) nW:=⟨by subst hK;exact ku,by
 intro B F σ H Γ vs ds Q QQ e r q k
 unfold nW at q
 split at q
 ·obtain⟨v,rfl,p,ys,rfl,h1,h2⟩:=r.one
  exact⟨p,ys,rfl,.inl ⟨SqL.of h1,fun l hf=>k _ _ (pJ e hf h2 q)⟩⟩
 ·exact q.elim⟩
def knD:D→Bool
 | .non=>true | .bl _=>true | .int _=>true | .str _=>true | .lst _=>true | .tup _=>true | .dct=>true | _=>false
theorem sW {d:D} {v:V} (s:aC F H) (h:dj K F H d v) (hk:knD d=true):Kn H v:=by
 unfold knD at hk
 split at hk
 ·cases h;exact .non
 ·cases h;exact .bl _
 ·cases h;exact .int _
 ·cases h;exact .str _
 ·obtain⟨p,vs,rfl,h1,_⟩:=h;exact .lst h1
 ·obtain⟨p,vs,rfl,h1,_⟩:=h;exact .tup (s _ _ h1)
 ·obtain⟨p,rfl,h1⟩:=h;exact .dK (s _ _ h1)
 ·cases hk
def dB:D→Bool
 | .bl _=>true | _=>false
def dI:D→Bool
 | .bl _=>true | .int _=>true | _=>false
def dL:D→Bool
 | .lst _=>true | _=>false
def dT:D→Bool
 | .tup _=>true | _=>false
def is3 (t:String) (f:D→Bool) (ds:List D) (Γ:G) (Q:RV→G→Prop):Prop:=match ds with
 | [d,.ty t']=>t'=t∧knD d=true∧Q (.fz (.bl (f d))) Γ
 | _=>False
theorem v3 {t:String} {f:D→Bool} {g:Hp→V→Bool} (h:bQ X (.builtin "isinstance") (fun xs H Q=>∃ x,xs=[x,.ty t]∧Kn H x∧Q (.bl (g H x)) H))
  (hg:∀ {F H:Hp} {d:D} {v:V},aC F H→dj K F H d v→knD d=true→g H v=f d):B3 K X (.builtin "isinstance") (fun xs H Q=>∃ x,xs=[x,.ty t]∧Kn H x∧Q (.bl (g H x)) H) (is3 t f):=⟨h,by
 intro B F σ H Γ vs ds Q QQ e r q k
 unfold is3 at q
 split at q
 ·obtain⟨v,w,rfl,h1,h2⟩:=r.two
  obtain⟨rfl,hk,q⟩:=q
  cases h2
  exact⟨v,rfl,sW e.sub h1 hk,by rw[hg e.sub h1 hk];exact k _ _ (ij e q)⟩
 ·exact q.elim⟩
theorem Bw (T:eO X.K):B3 K X (.builtin "isinstance") (fun xs H Q=>∃ x,xs=[x,.ty "bool"]∧Kn H x∧Q (.bl (isB x)) H) (is3 "bool" dB):=v3 (g:=fun _ v=>isB v) (tW T) fun s h hk=>by
 unfold knD at hk
 split at hk
 ·cases h;rfl
 ·cases h;rfl
 ·cases h;rfl
 ·cases h;rfl
 ·obtain⟨p,vs,rfl,h1,_⟩:=h;rfl
 ·obtain⟨p,vs,rfl,h1,_⟩:=h;rfl
 ·obtain⟨p,rfl,h1⟩:=h;rfl
 ·cases hk
theorem Bv (T:eO X.K):B3 K X (.builtin "isinstance") (fun xs H Q=>∃ x,xs=[x,.ty "int"]∧Kn H x∧Q (.bl (isI x)) H) (is3 "int" dI):=v3 (g:=fun _ v=>isI v) (tU T) fun s h hk=>by
 unfold knD at hk
 split at hk
 ·cases h;rfl
 ·cases h;rfl
 ·cases h;rfl
 ·cases h;rfl
 ·obtain⟨p,vs,rfl,h1,_⟩:=h;rfl
 ·obtain⟨p,vs,rfl,h1,_⟩:=h;rfl
 ·obtain⟨p,rfl,h1⟩:=h;rfl
 ·cases hk
theorem xh (T:eO X.K):B3 K X (.builtin "isinstance") (fun xs H Q=>∃ x,xs=[x,.ty "list"]∧Kn H x∧Q (.bl (isL H x)) H) (is3 "list" dL):=v3 (tS T) fun s h hk=>by
 unfold knD at hk
 split at hk
 ·cases h;rfl
 ·cases h;rfl
 ·cases h;rfl
 ·cases h;rfl
 ·obtain⟨p,vs,rfl,h1,_⟩:=h;exact pY h1
 ·obtain⟨p,vs,rfl,h1,_⟩:=h;exact pX (s _ _ h1)
 ·obtain⟨p,rfl,h1⟩:=h;exact sY (s _ _ h1)
 ·cases hk
def zB (ds:List D) (Γ:G) (Q:RV→G→Prop):Prop:=match ds with
 | [.lst xs]=>∃ bs:List Bool,xs=bs.map .bl∧Q (.fz (.bl (bs.all id))) Γ
 | _=>False
theorem au.p9:∀ {bs:List Bool} {vs:List V},au K F (bs.map D.bl) vs→vs=bs.map V.bl
 | [],_,h=>h
 | n::ns,_,⟨v,ws,h1,h2,h3⟩=>by
  rw[h1,au.p9 h3]
  have:v=.bl n:=h2
  rw[this];rfl
theorem nz (hK:X.K=K) (hc:X.calm=true):B3 K X (.builtin "all") (fun xs H Q=>∃ (p:Addr) (bs:List Bool),xs=[.ref p]∧SqL K H p (bs.map V.bl)∧Q (.bl (bs.all id)) H) zB:=⟨by subst hK;exact qQ hc,by
 intro B F σ H Γ vs ds Q QQ e r q k
 unfold zB at q
 split at q
 ·obtain⟨bs,rfl,q⟩:=q
  obtain⟨v,rfl,p,ys,rfl,h1,h2⟩:=r.one
  exact⟨p,bs,rfl,SqL.of (by rw[h1,h2.p9]),k _ _ (ij e q)⟩
 ·exact q.elim⟩
def flD:D→Bool
 | .non=>true | .bl _=>true | .int _=>true | .str _=>true | _=>false
def toV:D→V
 | .bl b=>.bl b | .int i=>.int i | .str x=>.str x | _=>.non
def in3 (neg:Bool) (x y:D) (Γ:G) (Q:RV→G→Prop):Prop:=∃ xs,j5 y=some xs∧flD x=true∧xs.all flD=true∧Q (.fz (.bl (if neg then !inV (toV x) (xs.map toV) else inV (toV x) (xs.map toV)))) Γ
def D8 (f:Str) (x:D) (Γ:G) (Q:RV→G→Prop):Prop:=match x with
 | .ins C ns xs=>∃ d,(ns.zip xs).lookup f=some d∧Q (.fz d) Γ
 | _=>False
theorem au.lookup:∀ {ns:List Str} {xs:List D} {gs:List (Str×V)} {f:Str} {d:D},gs.map (·.1)=ns→au K F xs (gs.map (·.2))→(ns.zip xs).lookup f=some d→∃ v,gs.lookup f=some v∧Rep K F d v
 | [],_,[],f,d,_,_,h=>by simp at h
 | n::ns,xs,(m,u)::gs,f,d,h1,h2,h3=>by
  simp only[List.map_cons,List.cons.injEq] at h1
  obtain⟨rfl,h1⟩:=h1
  cases xs with
  | nil=>simp at h3
  | cons x xs=>
   obtain⟨v,ws,e,r,h2⟩:=h2
   simp only[List.map_cons,List.cons.injEq] at e
   obtain⟨rfl,rfl⟩:=e
   rw[List.zip_cons_cons,List.lookup_cons] at h3
   rw[List.lookup_cons]
   cases q:f == m with
   | true=>rw[q] at h3;cases h3;exact⟨_,rfl,r⟩
   | false=>rw[q] at h3;exact au.lookup h1 h2 h3
end
end L3
namespace L3
open PySem L2 PySem.Spec
structure E3 where
 nx:G→Prop
 rt:RV→G→Prop
 bk:G→Prop:=fun _=>False
 ct:G→Prop:=fun _=>False
abbrev TS3:=E3→G→Prop
structure iJ (K:PySem.W.Frag) (B:Bs) (F:Hp) (D:Ends) (D3:E3):Prop where
 nx:∀ F' σ' H' Γ',aC F F'→En K B F' σ' H' Γ'→D3.nx Γ'→D.nx σ' H'
 rt:∀ F' σ' H' Γ' v r,aC F F'→En K B F' σ' H' Γ'→e9 K B F' σ' H' Γ' v r→D3.rt r Γ'→D.rt v H'
 bk:∀ F' σ' H' Γ',aC F F'→En K B F' σ' H' Γ'→D3.bk Γ'→D.bk σ' H'
 ct:∀ F' σ' H' Γ',aC F F'→En K B F' σ' H' Γ'→D3.ct Γ'→D.ct σ' H'
theorem iJ.mono {K:PySem.W.Frag} {B:Bs} {F F1:Hp} {D:Ends} {D3:E3} (h:iJ K B F D D3) (s:aC F F1):iJ K B F1 D D3:=
 ⟨fun F' σ' H' Γ' s'=>h.nx F' σ' H' Γ' (s.trans s'),fun F' σ' H' Γ' v r s'=>h.rt F' σ' H' Γ' v r (s.trans s'),fun F' σ' H' Γ' s'=>h.bk F' σ' H' Γ' (s.trans s'),fun F' σ' H' Γ' s'=>h.ct F' σ' H' Γ' (s.trans s')⟩
def wo (K:PySem.W.Frag) (t:TS) (t3:TS3):Prop:=∀ (B:Bs) (F:Hp) (σ:L2.St) (H:Hp) (Γ:G) (D:Ends) (D3:E3),En K B F σ H Γ→iJ K B F D D3→t3 D3 Γ→t D σ H
structure P3S (K:PySem.W.Frag) (X:Cx) (st:Stmt) (t:TS) (t3:TS3):Prop where
 pe:PS X st t
 rf:wo K t t3
structure jA (K:PySem.W.Frag) (X:Cx) (st:List Stmt) (t:TS) (t3:TS3):Prop where
 pe:PSs X st t
 rf:wo K t t3
section
variable {K:PySem.W.Frag} {X:Cx} {B:Bs} {F H:Hp} {σ:L2.St} {Γ:G} {pos:Pos}
def aZ (Γ:G) (i:Nat):Prop:=match Γ[i]? with
 | some (some (.ln _))=>False
 | some _=>True
 | none=>False
theorem iy {i:Nat} (h:aZ Γ i):i < Γ.length:=by
 unfold aZ at h
 split at h
 ·exact h.elim
 ·rename_i q
  exact(List.getElem?_eq_some_iff.mp q).1
 ·exact h.elim
theorem aB {α:Type} {l:List α} {i:Nat} {a:α} (h:i < l.length):(l.set i a)[i]?=some a:=by
 rw[List.getElem?_set,if_pos rfl,if_pos h]
theorem En.set (e:En K B F σ H Γ) {i:Nat} (hi:aZ Γ i) {v:V} {r:RV} (hr:e9 K B F σ H Γ v r) (hn:∀ xs ys,r≠.two xs ys:=by nofun):En K B F (σ.set i (some v)) H (Γ.set i (some r.sl)):=by
 have il:=iy hi
 have is:i < σ.length:=by rw[e.len];exact il
 have nl:∀ d,Γ[i]?≠some (some (Sl.ln d)):=fun d q=>by unfold aZ at hi;rw[q] at hi;exact hi
 have ne:∀ {j:Nat},j≠i→(Γ.set i (some r.sl))[j]?=Γ[j]?∧(σ.set i (some v))[j]?=σ[j]?:=fun h=>⟨bL (Ne.symm h),bL (Ne.symm h)⟩
 have hld:∀ {j x},Hld (Γ.set i (some r.sl)) j x→(j=i∧r=.fr x)∨(j≠i∧Hld Γ j x):=fun {j x} q=>by
  by_cases z:j=i
  ·subst z
   left
   refine⟨rfl,?_⟩
   rcases q with q | q <;> rw[aB il] at q <;> cases r <;> cases q <;> rfl
  ·right
   exact⟨z,by unfold Hld at q ⊢;rw[(ne z).1] at q;exact q⟩
 refine⟨e.sub,by rw[List.length_set,List.length_set];exact e.len,?_,?_,?_,?_,?_,?_,e.keep,e.new,e.rest,e.dom⟩
 ·intro j d q
  by_cases z:j=i
  ·subst z
   rw[aB il] at q
   cases r with
   | fz x=>cases q;exact⟨v,aB is,hr⟩
   | fr x=>cases q
   | two xs ys=>exact absurd rfl (hn xs ys)
  ·rw[(ne z).1] at q
   rw[(ne z).2]
   exact e.fz j d q
 ·intro j d q
  rcases hld q with ⟨rfl,rfl⟩ | ⟨z,q⟩
  ·obtain⟨p,rfl,h1,h2,h3,h4⟩:=hr
   exact⟨p,aB is,h1,h2⟩
  ·rw[(ne z).2]
   exact e.hl j d q
 ·intro j d p q a
  rcases hld (.inl q) with ⟨rfl,rfl⟩ | ⟨z,_⟩
  ·obtain⟨p',rfl,h1,h2,h3,h4⟩:=hr
   rw[aB is] at a;cases a
   exact h3
  ·rw[(ne z).1] at q
   rw[(ne z).2] at a
   exact e.ow j d p q a
 ·intro j d p q a
  rcases hld (.inr q) with ⟨rfl,rfl⟩ | ⟨z,_⟩
  ·rw[aB il] at q;cases q
  ·rw[(ne z).1] at q
   rw[(ne z).2] at a
   exact e.ln j d p q a
 ·intro j k d d' p q1 q2 a1 a2
  rcases hld q1 with ⟨rfl,rfl⟩ | ⟨z1,w1⟩
  ·rcases hld q2 with ⟨rfl,h⟩ | ⟨z2,w2⟩
   ·rfl
   ·obtain⟨p',rfl,h1,h2,h3,h4⟩:=hr
    rw[aB is] at a1;cases a1
    rw[(ne z2).2] at a2
    exact absurd a2 (h4 k _ w2)
  ·rcases hld q2 with ⟨rfl,h⟩ | ⟨z2,w2⟩
   ·subst h
    obtain⟨p',rfl,h1,h2,h3,h4⟩:=hr
    rw[aB is] at a2;cases a2
    rw[(ne z1).2] at a1
    exact absurd a1 (h4 j _ w1)
   ·rw[(ne z1).2] at a1
    rw[(ne z2).2] at a2
    exact e.dis j k d d' p w1 w2 a1 a2
 ·intro j p q
  obtain⟨a,d,b⟩:=e.par j p q
  have z:j≠i:=fun z=>by subst z;exact nl d b
  rw[(ne z).1,(ne z).2]
  exact⟨a,d,b⟩
theorem En.forget (e:En K B F σ H Γ) {i:Nat} (hi:aZ Γ i):En K B F σ H (Γ.set i none):=by
 have nl:∀ d,Γ[i]?≠some (some (Sl.ln d)):=fun d q=>by unfold aZ at hi;rw[q] at hi;exact hi
 have il:=iy hi
 have ne:∀ {j:Nat} {s:Sl},(Γ.set i none)[j]?=some (some s)→j≠i∧Γ[j]?=some (some s):=fun {j s} q=>by
  by_cases z:j=i
  ·subst z;rw[aB il] at q;cases q
  ·exact⟨z,by rw[bL (Ne.symm z)] at q;exact q⟩
 have hld:∀ {j x},Hld (Γ.set i none) j x→Hld Γ j x:=fun q=>q.imp (fun q=>(ne q).2) (fun q=>(ne q).2)
 exact⟨e.sub,by rw[List.length_set];exact e.len,fun j d q=>e.fz j d (ne q).2,fun j d q=>e.hl j d (hld q),fun j d p q=>e.ow j d p (ne q).2,fun j d p q=>e.ln j d p (ne q).2,fun j k d d' p q1 q2=>e.dis j k d d' p (hld q1) (hld q2),
  fun j p q=>by
   obtain⟨a,d,b⟩:=e.par j p q
   have z:i≠j:=fun z=>by subst z;exact nl d b
   exact⟨a,d,by rw[bL z];exact b⟩,e.keep,e.new,e.rest,e.dom⟩
def uq (i:Nat) (Γ:G) (Q:RV→G→Prop):Prop:=match Γ[i]? with
 | some (some (.fz d))=>Q (.fz d) Γ
 | some (some (.ow d))=>Q (.fr d) (Γ.set i none)
 | _=>False
theorem xR (i:Nat):Ref K (eY i) (uq i):=by
 intro B F σ H Γ Q QQ e h k
 unfold uq at h
 split at h
 ·rename_i d q
  obtain⟨v,h1,h2⟩:=e.fz i d q
  exact⟨v,h1,k _ _ (dk e h2 h)⟩
 ·rename_i d q
  obtain⟨p,h1,h2,h3⟩:=e.hl i d (.inl q)
  have hf:aZ Γ i:=by unfold aZ;rw[q];trivial
  have e':=e.forget hf
  refine⟨_,h1,k _ _ ⟨F,_,.fr d,aC.refl F,e',⟨p,rfl,h2,h3,e.ow i d p q h1,fun j x hj=>?_⟩,h⟩⟩
  intro a
  have hj':j≠i∧Hld Γ j x:=by
   by_cases z:j=i
   ·subst z
    rcases hj with hj | hj <;> rw[aB (iy hf)] at hj <;> cases hj
   ·exact⟨z,by unfold Hld at hj ⊢;rw[bL (Ne.symm z)] at hj;exact hj⟩
  exact hj'.1 (e.dis j i x d p hj'.2 (.inl q) a h1)
 ·exact h.elim
theorem yh (i:Nat) {x:Str} {pos:Pos} (hN:X.N[i]?=some x:=by rfl) (hv:Vis X.env.scope x:=by first | exact Or.inl rfl | exact Or.inr (Or.inl rfl) | exact Or.inr (Or.inr rfl)) (hd:(x == ("__debug__":Str))=false:=by decide)
  (hcd:(x == ("__classdict__":Str))=false:=by decide):P3 K X (.Name x pos) (eY i) (uq i):=⟨fk hN hv hd hcd,xR i⟩
variable {st:Stmt} {rest:List Stmt} {t u:TS} {t3 u3:TS3} {e:Expr} {te:TE} {e3:TE3}
def wF (D:E3) (Γ:G):Prop:=D.nx Γ
def xM (t u:TS3) (D:E3) (Γ:G):Prop:=t { D with nx:=u D } Γ
def Ak (e3:TE3) (D:E3) (Γ:G):Prop:=e3 Γ D.rt
def tI (e3:TE3) (D:E3) (Γ:G):Prop:=e3 Γ fun _ Γ1=>D.nx Γ1
theorem aW:jA K X [] wx wF:=⟨uQ,fun B F σ H Γ D D3 e k q=>k.nx F σ H Γ (aC.refl F) e q⟩
theorem ai (h1:P3S K X st t t3) (h2:jA K X rest u u3):jA K X (st::rest) (xy t u) (xM t3 u3):=⟨jW h1.pe h2.pe,fun B F σ H Γ D D3 e k q=>
 h1.rf B F σ H Γ _ { D3 with nx:=u3 D3 } e ⟨fun F' σ' H' Γ' s e' q'=>h2.rf B F' σ' H' Γ' _ D3 e' (k.mono s) q',k.rt,k.bk,k.ct⟩ q⟩
theorem aq (h1:P3S K X st t t3):jA K X [st] t t3:=⟨jE h1.pe,h1.rf⟩
theorem aG (h:P3 K X e te e3):P3S K X (.Return (some e) pos) (zV te) (Ak e3):=⟨xZ h.pe,fun B F σ H Γ D D3 e k q=>
 h.rf B F σ H Γ _ _ e q fun v H' ⟨F',Γ',r,s,e',rv,q'⟩=>k.rt F' σ H' Γ' v r s e' rv q'⟩
theorem pE (h:P3 K X e te e3) (hs:swapsWith e none pos.line X.env=pure false:=by rfl):P3S K X (.Expr e pos) (rq te) (tI e3):=⟨jF h.pe hs,fun B F σ H Γ D D3 e k q=>
 h.rf B F σ H Γ _ _ e q fun v H' ⟨F',Γ',r,s,e',rv,q'⟩=>k.nx F' σ H' Γ' s e' q'⟩
def yY (A3:TT3) (t u:TS3) (D:E3) (Γ:G):Prop:=A3 Γ fun c Γ1=>match c with
 | true=>t D Γ1
 | false=>u D Γ1
theorem bR {c:Expr} {a b:List Stmt} {tc:TT} {A3:TT3} (hc:P3T K X c tc A3) (ha:jA K X a t t3) (hb:jA K X b u u3):P3S K X (.If c a b pos) (xB tc t u) (yY A3 t3 u3):=⟨wz hc.pe ha.pe hb.pe,fun B F σ H Γ D D3 e k q=>
 hc.rf B F σ H Γ _ _ e q fun c H' ⟨F',Γ',s,e',q'⟩=>by
  cases c with
  | true=>exact vG (ha.rf B F' σ H' Γ' D D3 e' (k.mono s) q')
  | false=>exact vH (hb.rf B F' σ H' Γ' D D3 e' (k.mono s) q')⟩
theorem h_:P3S K X st rn (fun _ _=>False):=⟨rX,fun B F σ H Γ D D3 e k q=>q⟩
def uz (i:Nat) (e3:TE3) (D:E3) (Γ:G):Prop:=e3 Γ fun r Γ1=>aZ Γ1 i∧D.nx (Γ1.set i (some r.sl))
theorem pG {i:Nat} (h:Ref K te e3):wo K (lB te (jh i)) (uz i e3):=fun B F σ H Γ D D3 e k q=>
 h B F σ H Γ _ _ e q fun v H' ⟨F',Γ',r,s,e',rv,hf,q'⟩=>by
  obtain⟨F2,r2,s2,e2,rv2,h2,hn⟩:=e'.norm rv
  exact k.nx F2 _ H' _ (s.trans s2) (by have:=e2.set hf rv2 hn;rw[h2] at this;exact this) q'
theorem aP {i:Nat} {x:Str} {pos':Pos} (hN:X.N.Nodup) (hi:X.N[i]?=some x) (hx:Loc X.env.scope x) (he:P3 K X e te e3) (hs:swapsWith e (some (.Name x pos')) pos.line X.env=pure false:=by rfl) (hf:X.fn x=true∨X.env.scope.names.lookup x=some .local:=by first | exact .inl rfl | exact .inr rfl | assumption) :
  P3S K X (.Assign [.Name x pos'] e pos) (lB te (jh i)) (uz i e3):=⟨xY hN hi hx he.pe hs hf,pG he.rf⟩
def AG (i j:Nat) (t3:TA3) (D:E3) (Γ:G):Prop:=t3 Γ fun ds Γ1=>∃ d d',ds=[d,d']∧aZ Γ1 i∧aZ (Γ1.set i (some (.fz d))) j∧D.nx ((Γ1.set i (some (.fz d))).set j (some (.fz d')))
theorem Cm {i j:Nat} {x y:Str} {a b:Expr} {ta:TA} {a3:TA3} {px py pt:Pos} {kt k2 pt2} (hc:X.calm=true) (hN:X.N.Nodup) (hi:X.N[i]?=some x) (hj:X.N[j]?=some y) (hij:i≠j)
  (hx:X.env.scope.names.lookup x=some .local) (hy:X.env.scope.names.lookup y=some .local) (ha:P3A K X [a,b] ta a3)
  (hw:swappedStores [.Tuple [.Name x px,.Name y py] kt pt] (.Tuple [a,b] k2 pt2) X.env=pure (some [x,y]))
  (hs:swapsWithSole [.Tuple [.Name x px,.Name y py] kt pt] (.Tuple [a,b] k2 pt2) pos.line X.env=pure false:=by rfl) :
  P3S K X (.Assign [.Tuple [.Name x px,.Name y py] kt pt] (.Tuple [a,b] k2 pt2) pos) (zW i j ta) (AG i j a3):=⟨x3 hc hN hi hj hij hx hy ha.pe hw hs,fun B F σ H Γ D D3 e k q=>
 ha.rf B F σ H Γ _ _ e q fun vs H' ⟨F',Γ',ds,s,e',rv,d,d',h1,h2,h3,q'⟩=>by
  subst h1
  obtain⟨v,ws,rfl,r1,w,ws',rfl,r2,r3⟩:=rv
  cases r3
  refine⟨v,w,rfl,k.nx F' _ H' _ s ?_ q'⟩
  exact(e'.set (r:=.fz d) h2 r1).set (r:=.fz d') h3 r2⟩
def gives (Γ:G):List Nat→List D→Option G
 | [],[]=>some Γ
 | i::is,d::ds=>gives (Γ.set i (some (.fz d))) is ds
 | _,_=>none
def frees (Γ:G):List Nat→List D→Prop
 | [],_=>True
 | i::is,d::ds=>aZ Γ i∧frees (Γ.set i (some (.fz d))) is ds
 | _,_=>True
def ma:List Nat→TGs
 | []=>Bc
 | i::is=>wZ (jh i) (ma is)
theorem oP {is:List Nat}:∀ {Γ:G} {σ:L2.St} {vs:List V} {ds:List D} {Γ':G} {QQ:L2.St→Hp→Prop},En K B F σ H Γ→au K F ds vs→gives Γ is ds=some Γ'→frees Γ is ds→(∀ σ',En K B F σ' H Γ'→QQ σ' H)→ma is vs σ H QQ:=by
 induction is with
 | nil=>
  intro Γ σ vs ds Γ' QQ e r g f k
  cases ds with
  | nil=>cases g;cases r;exact⟨rfl,k σ e⟩
  | cons d ds=>cases g
 | cons i is ih=>
  intro Γ σ vs ds Γ' QQ e r g f k
  cases ds with
  | nil=>cases g
  | cons d ds=>
   obtain⟨v,ws,rfl,r1,r2⟩:=r
   exact⟨v,ws,rfl,ih (e.set (r:=.fz d) f.1 r1) r2 g f.2 k⟩
def Ab (is:List Nat) (e3:TE3) (D:E3) (Γ:G):Prop:=e3 Γ fun r Γ1=>∃ ds Γ',r.d=.tup ds∧gives Γ1 is ds=some Γ'∧frees Γ1 is ds∧D.nx Γ'
theorem qJ {is:List Nat}:∀ {Γ Γ':G} {ds:List D},gives Γ is ds=some Γ'→ds.length=is.length:=by
 induction is with
 | nil=>intro Γ Γ' ds h;cases ds with | nil=>rfl | cons=>cases h
 | cons i is ih=>intro Γ Γ' ds h;cases ds with | nil=>cases h | cons d ds=>simp [ih h]
def putD (Γ:G) (i:Nat) (d:D):G:=match Γ[i]? with
 | some (some (.ow _))=>Γ.set i (some (.ow d))
 | some (some (.ln _))=>Γ.set i (some (.ln d))
 | _=>Γ
def bS (Γ:G) (i:Nat):Option (List D):=match Γ[i]? with
 | some (some (.ow (.lst xs)))=>some xs
 | some (some (.ln (.lst xs)))=>some xs
 | _=>none
theorem kS {i:Nat} {xs:List D} (h:bS Γ i=some xs):Hld Γ i (.lst xs):=by
 unfold bS at h
 split at h
 ·cases h;rename_i q;exact .inl q
 ·cases h;rename_i q;exact .inr q
 ·cases h
theorem En.mut (e:En K B F σ H Γ) {i:Nat} {xs xs':List D} (h:bS Γ i=some xs) {p:Addr} (hp:σ[i]?=some (some (V.ref p))) {vs':List V} (r:au K F xs' vs'):En K B F σ (upd H p (.lst vs')) (putD Γ i (.lst xs')):=by
 have hh:=kS h
 obtain⟨p0,a0,b0,c0⟩:=e.hl i _ hh
 rw[hp] at a0;cases a0
 obtain⟨o,ho⟩:=c0.some
 have hput:(Γ[i]?=some (some (Sl.ow (.lst xs)))∧putD Γ i (.lst xs')=Γ.set i (some (.ow (.lst xs'))))∨(Γ[i]?=some (some (Sl.ln (.lst xs)))∧putD Γ i (.lst xs')=Γ.set i (some (.ln (.lst xs')))):=by
  rcases hh with q | q
  ·exact .inl ⟨q,by unfold putD;rw[q]⟩
  ·exact .inr ⟨q,by unfold putD;rw[q]⟩
 have il:i < Γ.length:=by rcases hput with ⟨q,_⟩ | ⟨q,_⟩ <;> exact(List.getElem?_eq_some_iff.mp q).1
 have other:∀ {j:Nat},j≠i→(putD Γ i (.lst xs'))[j]?=Γ[j]?:=fun z=>by
  rcases hput with ⟨_,q⟩ | ⟨_,q⟩ <;> rw[q,bL (Ne.symm z)]
 have same:∀ {s:Sl},(putD Γ i (.lst xs'))[i]?=some (some s)→(s=.ow (.lst xs')∧Γ[i]?=some (some (Sl.ow (.lst xs))))∨(s=.ln (.lst xs')∧Γ[i]?=some (some (Sl.ln (.lst xs)))):=fun {s} q=>by
  rcases hput with ⟨a,b⟩ | ⟨a,b⟩
  ·rw[b,aB il] at q;cases q;exact .inl ⟨rfl,a⟩
  ·rw[b,aB il] at q;cases q;exact .inr ⟨rfl,a⟩
 have hld:∀ {j x},Hld (putD Γ i (.lst xs')) j x→(j=i∧x=.lst xs')∨(j≠i∧Hld Γ j x):=fun {j x} q=>by
  by_cases z:j=i
  ·subst z
   left
   rcases q with q | q <;> rcases same q with ⟨h,_⟩ | ⟨h,_⟩ <;> cases h <;> exact⟨rfl,rfl⟩
  ·right;exact⟨z,by unfold Hld at q ⊢;rw[other z] at q;exact q⟩
 have hld':∀ {j x},Hld (putD Γ i (.lst xs')) j x→∃ y,Hld Γ j y:=fun q=>by
  rcases hld q with ⟨rfl,_⟩ | ⟨_,q⟩
  ·exact⟨_,hh⟩
  ·exact⟨_,q⟩
 refine⟨?_,?_,?_,?_,?_,?_,?_,?_,e.keep,e.new,?_,?_⟩
 ·intro b u q
  have z:b≠p:=fun z=>by subst z;rw[b0] at q;cases q
  rw[ag z];exact e.sub b u q
 ·rcases hput with ⟨_,q⟩ | ⟨_,q⟩ <;> rw[q,List.length_set] <;> exact e.len
 ·intro j d q
  by_cases z:j=i
  ·subst z;rcases same q with ⟨h,_⟩ | ⟨h,_⟩ <;> cases h
  ·rw[other z] at q;exact e.fz j d q
 ·intro j d q
  rcases hld q with ⟨rfl,rfl⟩ | ⟨z,q⟩
  ·exact⟨p,hp,b0,vs',ax,r⟩
  ·obtain⟨p',a,b,c⟩:=e.hl j d q
   have ne:p'≠p:=fun y=>z (e.dis j i _ _ p q hh (y ▸ a) hp)
   exact⟨p',a,b,c.mono (aC.refl F) (ag ne)⟩
 ·intro j d p' q a
  by_cases z:j=i
  ·subst z
   rcases same q with ⟨h,g⟩ | ⟨h,g⟩
   ·exact e.ow j _ p' g a
   ·cases h
  ·rw[other z] at q;exact e.ow j d p' q a
 ·intro j d p' q a
  by_cases z:j=i
  ·subst z
   rcases same q with ⟨h,g⟩ | ⟨h,g⟩
   ·cases h
   ·exact e.ln j _ p' g a
  ·rw[other z] at q;exact e.ln j d p' q a
 ·intro j k d d' p' q1 q2
  obtain⟨y1,h1⟩:=hld' q1
  obtain⟨y2,h2⟩:=hld' q2
  exact e.dis j k y1 y2 p' h1 h2
 ·intro j p' q
  obtain⟨a,d,b⟩:=e.par j p' q
  refine⟨a,?_⟩
  by_cases z:j=i
  ·subst z
   rcases hput with ⟨c,_⟩ | ⟨_,c⟩
   ·rw[b] at c;cases c
   ·exact⟨_,by rw[c,aB il]⟩
  ·exact⟨d,by rw[other z];exact b⟩
 ·intro b u q n
  have z:b≠p:=fun z=>by
   subst z
   rcases hh with g | g
   ·rw[e.ow i _ _ g hp] at q;cases q
   ·exact n i (e.ln i _ _ g hp)
  rw[ag z];exact e.rest b u q n
 ·intro b q
  by_cases z:b=p
  ·subst z;rw[ax] at q;cases q
  ·rw[ag z] at q;exact e.dom b q
end
end L3
namespace L3
open PySem L2 PySem.Spec
section
variable {K:PySem.W.Frag} {X:Cx} {B:Bs} {F H:Hp} {σ:L2.St} {Γ:G} {pos:Pos}
def newD:List (Option Nat)→G→Nat→Option D
 | some j'::ls,s::cs,j=>if j'=j then (match s with
   | some (.ln d)=>some d
   | _=>newD ls cs j) else newD ls cs j
 | none::ls,_::cs,j=>newD ls cs j
 | _,_,_=>none
theorem dJ:∀ {ls:List (Option Nat)} {cs:G} {j:Nat} {d:D},newD ls cs j=some d→∃ k:Nat,ls[k]?=some (some j)∧cs[k]?=some (some (Sl.ln d))
 | some j'::ls,s::cs,j,d,h=>by
  unfold newD at h
  split at h
  ·rename_i e
   subst e
   split at h
   ·cases h;exact⟨0,rfl,rfl⟩
   ·obtain⟨k,a,b⟩:=dJ h
    exact⟨k + 1,by simpa using a,by simpa using b⟩
  ·obtain⟨k,a,b⟩:=dJ h
   exact⟨k + 1,by simpa using a,by simpa using b⟩
 | none::ls,_::cs,j,d,h=>by
  unfold newD at h
  obtain⟨k,a,b⟩:=dJ h
  exact⟨k + 1,by simpa using a,by simpa using b⟩
 | [],_,_,_,h=>by unfold newD at h;cases h
 | some _::_,[],_,_,h=>by unfold newD at h;cases h
 | none::_,[],_,_,h=>by unfold newD at h;cases h
theorem jH:∀ {ls:List (Option Nat)} {cs:G} {j k:Nat} {d:D},ls[k]?=some (some j)→cs[k]?=some (some (Sl.ln d))→∃ d',newD ls cs j=some d'
 | [],_,_,_,_,h,_=>by simp at h
 | _::_,[],_,_,_,_,h=>by simp at h
 | some j'::ls,s::cs,j,0,d,h,h'=>by
  simp at h h'
  subst h h'
  exact⟨d,by unfold newD;rw[if_pos rfl]⟩
 | none::ls,s::cs,j,0,d,h,h'=>by simp at h
 | some j'::ls,s::cs,j,k + 1,d,h,h'=>by
  unfold newD
  split
  ·split
   ·exact⟨_,rfl⟩
   ·exact jH (k:=k) (by simpa using h) (by simpa using h')
  ·exact jH (k:=k) (by simpa using h) (by simpa using h')
 | none::ls,s::cs,j,k + 1,d,h,h'=>by
  unfold newD
  exact jH (k:=k) (by simpa using h) (by simpa using h')
def iF (n:Option D):Option Sl→Option Sl
 | some (.ow d)=>some (.ow (n.getD d))
 | some (.ln d)=>some (.ln (n.getD d))
 | s=>s
def bB (ls:List (Option Nat)) (Γ cs:G):G:=Γ.mapIdx fun j s=>iF (newD ls cs j) s
theorem cH {ls:List (Option Nat)} {cs:G} {j:Nat}:(bB ls Γ cs)[j]?=(Γ[j]?).map (iF (newD ls cs j)):=by
 unfold bB
 rw[List.getElem?_mapIdx]
theorem En.back {F1 H1:Hp} {own':List (Nat×Addr)} {σc:L2.St} {Γc:G} {ls:List (Option Nat)} (e:En K B F1 σ H1 Γ) (e2:En K ⟨F1,H1,own'⟩ F σc H Γc)
  (h1:∀ k p,(k,p)∈own'→∃ j d,ls[k]?=some (some j)∧Hld Γ j d∧σ[j]?=some (some (V.ref p))):En K B F σ H (bB ls Γ Γc):=by
 have gfz:∀ {j d},(bB ls Γ Γc)[j]?=some (some (Sl.fz d))→Γ[j]?=some (some (Sl.fz d)):=fun {j d} q=>by
  rw[cH] at q
  cases w:Γ[j]? with
  | none=>rw[w] at q;cases q
  | some s=>
   rw[w] at q
   cases s with
   | none=>cases q
   | some s=>cases s <;> cases q;rfl
 have gow:∀ {j d},(bB ls Γ Γc)[j]?=some (some (Sl.ow d))→∃ d0,Γ[j]?=some (some (Sl.ow d0))∧d=(newD ls Γc j).getD d0:=fun {j d} q=>by
  rw[cH] at q
  cases w:Γ[j]? with
  | none=>rw[w] at q;cases q
  | some s=>
   rw[w] at q
   cases s with
   | none=>cases q
   | some s=>cases s <;> cases q;exact⟨_,rfl,rfl⟩
 have gln:∀ {j d},(bB ls Γ Γc)[j]?=some (some (Sl.ln d))→∃ d0,Γ[j]?=some (some (Sl.ln d0))∧d=(newD ls Γc j).getD d0:=fun {j d} q=>by
  rw[cH] at q
  cases w:Γ[j]? with
  | none=>rw[w] at q;cases q
  | some s=>
   rw[w] at q
   cases s with
   | none=>cases q
   | some s=>cases s <;> cases q;exact⟨_,rfl,rfl⟩
 have gh:∀ {j d},Hld (bB ls Γ Γc) j d→∃ d0,Hld Γ j d0∧d=(newD ls Γc j).getD d0:=fun {j d} q=>by
  rcases q with q | q
  ·obtain⟨d0,a,b⟩:=gow q;exact⟨d0,.inl a,b⟩
  ·obtain⟨d0,a,b⟩:=gln q;exact⟨d0,.inr a,b⟩
 refine⟨e2.sub,by unfold bB;rw[List.length_mapIdx];exact e.len,?_,?_,?_,?_,?_,?_,e.keep.trans e2.keep,?_,?_,?_⟩
 ·intro j d q
  obtain⟨v,a,b⟩:=e.fz j d (gfz q)
  exact⟨v,a,b.mono e2.keep⟩
 ·intro j d q
  obtain⟨d0,w0,rfl⟩:=gh q
  obtain⟨p,a,b,c⟩:=e.hl j d0 w0
  obtain⟨o,ho⟩:=c.some
  have fp:F p=none:=by
   cases w:F p with
   | none=>rfl
   | some u=>
    rcases e2.new p u w with z | z
    ·rw[show F1 p=some u from z] at b;cases b
    ·rw[show H1 p=none from z] at ho;cases ho
  refine⟨p,a,fp,?_⟩
  cases w:newD ls Γc j with
  | some d'=>
   obtain⟨k,x,y⟩:=dJ w
   obtain⟨p',a',b',c'⟩:=e2.hl k d' (.inr y)
   obtain⟨j2,d2,x2,_,a2⟩:=h1 k p' (e2.ln k d' p' y a')
   rw[x] at x2;cases x2
   rw[a] at a2;cases a2
   exact c'
  | none=>
   have hk:∀ k,(k,p)∉own':=fun k hk=>by
    obtain⟨j2,d2,x2,q2,a2⟩:=h1 k p hk
    obtain⟨_,d3,y⟩:=e2.par k p hk
    have:j2=j:=e.dis j2 j d2 d0 p q2 w0 a2 a
    subst this
    obtain⟨d4,z⟩:=jH x2 y
    rw[w] at z;cases z
   have hp:H p=H1 p:=by rw[ho];exact e2.rest p o ho hk
   exact c.mono e2.keep hp
 ·intro j d p q a
  obtain⟨d0,q,_⟩:=gow q
  exact e.ow j d0 p q a
 ·intro j d p q a
  obtain⟨d0,q,_⟩:=gln q
  exact e.ln j d0 p q a
 ·intro i j d d' p q1 q2
  obtain⟨d0,q1,_⟩:=gh q1
  obtain⟨d1,q2,_⟩:=gh q2
  exact e.dis i j d0 d1 p q1 q2
 ·intro j p q
  obtain⟨a,d,b⟩:=e.par j p q
  exact⟨a,_,by rw[cH,b];rfl⟩
 ·intro b o q
  rcases e2.new b o q with z | z
  ·exact e.new b o z
  ·exact .inr (e.dom b z)
 ·intro b o q n
  have q1:=e.rest b o q n
  refine e2.rest b o q1 fun k hk=>?_
  obtain⟨j,d,x,y,a⟩:=h1 k b hk
  rcases y with y | y
  ·rw[e.ow j d b y a] at q;cases q
  ·exact n j (e.ln j d b y a)
 ·intro b q
  exact e.dom b (e2.dom b q)
structure ItR (K:PySem.W.Frag) (F:Hp) (J:It) (xs:List D):Prop where
 go:∀ i H',aC F H'→i < xs.length→J.go i H'
 stop:∀ i H',aC F H'→i=xs.length→J.stop i H'
 yld:∀ i H' x H'' d,aC F H'→xs[i]?=some d→J.yld i H' x H''→(H''=H'∧Rep K F d x)∨∃ t vs ds,H' t=none∧H''=upd H' t (.tup vs)∧x=.ref t∧au K F ds vs∧d=.tup ds
abbrev TI3:=G→(List D→G→Prop)→Prop
def BM (K:PySem.W.Frag) (t:TI) (i3:TI3):Prop:=∀ (B:Bs) (F:Hp) (σ:L2.St) (H:Hp) (Γ:G) (Q:List D→G→Prop) (R:It→Hp→Prop),En K B F σ H Γ→i3 Γ Q→(∀ J H1 F1 Γ1 xs,aC F F1→En K B F1 σ H1 Γ1→ItR K F1 J xs→Q xs Γ1→R J H1)→t σ H R
structure P3I (K:PySem.W.Frag) (X:Cx) (tg iter:Expr) (t:TI) (i3:TI3):Prop where
 pe:PI X tg iter t
 rf:BM K t i3
abbrev TG3:=D→G→(G→Prop)→Prop
def BN (K:PySem.W.Frag) (g:TG) (g3:TG3):Prop:=∀ (B:Bs) (F:Hp) (σ:L2.St) (H:Hp) (Γ:G) (v:V) (d:D) (Q:G→Prop) (QQ:L2.St→Hp→Prop),En K B F σ H Γ→Rep K F d v→g3 d Γ Q→(∀ σ' Γ',En K B F σ' H Γ'→Q Γ'→QQ σ' H)→g v σ H QQ
structure P3G (K:PySem.W.Frag) (X:Cx) (tg:Expr) (g:TG) (g3:TG3):Prop where
 pe:PG X tg g
 rf:BN K g g3
def tgN (i:Nat) (d:D) (Γ:G) (Q:G→Prop):Prop:=aZ Γ i∧Q (Γ.set i (some (.fz d)))
def tgT (is:List Nat) (d:D) (Γ:G) (Q:G→Prop):Prop:=∃ ds Γ',d=.tup ds∧gives Γ is ds=some Γ'∧frees Γ is ds∧Q Γ'
theorem aY {i:Nat} {x:Str} (hN:X.N.Nodup) (hi:X.N[i]?=some x) (hx:Loc X.env.scope x) (hf:X.fn x=true∨X.env.scope.names.lookup x=some .local:=by first | exact .inl rfl | exact .inr rfl | assumption):P3G K X (.Name x pos) (jh i) (tgN i):=
 ⟨iq hN hi hx hf,fun B F σ H Γ v d Q QQ e r q k=>k _ _ (e.set (r:=.fz d) q.1 r) q.2⟩
theorem tE {es:List Expr} {kt:Nat} {is:List Nat} (hK:X.K=K) (hg:PGs X es (ma is)) (hc:X.calm=true) (hn:(assignEach es X.env).length=is.length:=by rfl) (hst:(assignEach es X.env).findIdx? (·.1)=none:=by rfl) :
  P3G K X (.Tuple es kt pos) (Bb K is.length (ma is)) (tgT is):=⟨by subst hK;exact x_ hc hg hn hst,fun B F σ H Γ v d Q QQ e r q k=>by
 obtain⟨ds,Γ',rfl,h1,h2,q⟩:=q
 obtain⟨p,vs,rfl,h4,h5⟩:=r
 exact⟨p,vs,rfl,.inl (.inl (e.sub _ _ h4)),by rw[h5.length,qJ h1],oP e h5 h1 h2 fun σ' e'=>k σ' Γ' e' q⟩⟩
theorem ItR.turn {J:It} {xs:List D} (R:ItR K F J xs) {F' H' H'':Hp} (s:aC F F') (e:En K B F' σ H' Γ) {i:Nat} {d:D} {x:V} (hd:xs[i]?=some d) (y:J.yld i H' x H''):∃ F2,aC F' F2∧En K B F2 σ H'' Γ∧Rep K F2 d x:=by
 rcases R.yld i H' x H'' d (s.trans e.sub) hd y with ⟨rfl,r⟩ | ⟨t,vs,ds,h1,rfl,rfl,r,rfl⟩
 ·exact⟨F',aC.refl F',e,r.mono s⟩
 ·exact⟨upd F' t (.tup vs),aU (e.nof h1),(e.alloc h1 _).freeze (e.nof h1) ax (e.dom _ h1) (e.oB h1),t,vs,rfl,ax,r.mono (s.trans (aU (e.nof h1)))⟩
def zj (i3:TI3) (g3:TG3) (b3:TS3) (D:E3) (Γ:G):Prop:=i3 Γ fun xs Γ1=>∃ Iv:Nat→G→Prop,Iv 0 Γ1∧(∀ k d Γ,xs[k]?=some d→Iv k Γ→g3 d Γ fun Γ'=>b3 { D with nx:=Iv (k + 1),ct:=Iv (k + 1),bk:=D.nx } Γ')∧∀ Γ,Iv xs.length Γ→D.nx Γ
theorem gK {tg iter:Expr} {body:List Stmt} {wi:TI} {i3:TI3} {g:TG} {g3:TG3} {tb:TS} {b3:TS3} (hp:PassesOwn (model X.prog X.w) X.A X.env X.xe) (hc:X.calm=true) (hi:P3I K X tg iter wi i3) (hg:P3G K X tg g g3) (hb:jA K X body tb b3) (hs:∀ x,foldedSetIterable iter X.env x=pure x:=by intro _;rfl) :
  P3S K X (.For tg iter body [] pos) (zZ wi g tb) (zj i3 g3 b3):=⟨x4 hp hc hi.pe hg.pe hb.pe hs,fun B F σ H Γ D D3 e k q=>by
 refine hi.rf B F σ H Γ _ _ e q fun J H1 F1 Γ1 xs s1 e1 R ⟨Iv,i0,it,ie⟩=>?_
 refine⟨fun i m σ H=>m=xs.length - i∧i≤xs.length∧∃ F' Γ',aC F1 F'∧En K B F' σ H Γ'∧Iv i Γ',⟨_,rfl,Nat.zero_le _,F1,Γ1,aC.refl _,e1,i0⟩,?_⟩
 rintro i m σ2 H2 ⟨rfl,hi',F2,Γ2,s2,e2,iv⟩
 by_cases lt:i < xs.length
 ·refine .inr ⟨R.go i H2 (s2.trans e2.sub) lt,fun σ' H'=>∃ F' Γ',aC F1 F'∧En K B F' σ' H' Γ'∧Iv (i + 1) Γ',fun σ' H' ⟨F',Γ',a,b,c⟩=>⟨xs.length - (i + 1),by omega,rfl,lt,F',Γ',a,b,c⟩,fun x H3 y=>?_⟩
  have hd:xs[i]?=some xs[i]:=List.getElem?_eq_getElem lt
  obtain⟨F3,s3,e3,r3⟩:=R.turn s2 e2 hd y
  refine hg.rf B F3 σ2 H3 Γ2 x _ _ _ e3 r3 (it i _ Γ2 hd iv) fun σ' Γ' e4 q4=>?_
  have s4:=s2.trans s3
  refine hb.rf B F3 σ' H3 Γ' _ { D3 with nx:=Iv (i + 1),ct:=Iv (i + 1),bk:=D3.nx } e4 ⟨fun F' σ' H' Γ' s e q=>⟨F',Γ',s4.trans s,e,q⟩,fun F' σ' H' Γ' v r s e rv q=>k.rt F' σ' H' Γ' v r ((s1.trans s4).trans s) e rv q,fun F' σ' H' Γ' s e q=>k.nx F' σ' H' Γ' ((s1.trans s4).trans s) e q,fun F' σ' H' Γ' s e q=>⟨F',Γ',s4.trans s,e,q⟩⟩ q4
 ·have z:i=xs.length:=by omega
  subst z
  exact .inl ⟨R.stop _ H2 (s2.trans e2.sub) rfl,k.nx F2 σ2 H2 Γ2 (s1.trans s2) e2 (ie Γ2 iv)⟩⟩
def iL3 (a3:TE3) (Γ:G) (Q:List D→G→Prop):Prop:=a3 Γ fun r Γ1=>∃ xs,r.d=.lst xs∧Q xs Γ1
theorem b9 {tg l:Expr} {tl:TE} {l3:TE3} (hK:X.K=K) (h:P3 K X l tl l3):P3I K X tg l (wN K tl) (iL3 l3):=⟨by subst hK;exact uV h.pe,fun B F σ H Γ Q R e q k=>
 h.rf B F σ H Γ _ _ e q fun v H' ⟨F',Γ',r,s,e',rv,xs,hx,q'⟩=>by
  obtain⟨F2,s2,e2,r2⟩:=e'.frozen rv
  rw[hx] at r2
  obtain⟨p,vs,rfl,h1,h2⟩:=r2
  refine⟨p,rfl,⟨vs,SqL.of (e2.sub _ _ h1)⟩,k _ H' F2 Γ' xs (s.trans s2) e2 ⟨fun i H'' sm lt=>?_,fun i H'' sm ei=>?_,fun i H'' x H3 d sm hd y=>?_⟩ q'⟩
  ·rw[← h2.length] at lt
   exact⟨vs,vs[i],SqL.of (sm _ _ h1),by simp [lt]⟩
  ·exact⟨vs,SqL.of (sm _ _ h1),by rw[h2.length];omega⟩
  ·obtain⟨e1,y⟩:=y
   obtain⟨d',hd',r⟩:=h2.vM (y vs (SqL.of (sm _ _ h1)))
   rw[hd] at hd';cases hd'
   exact .inl ⟨e1,r⟩⟩
def rng (lo:Int) (n:Nat):List D:=(List.range n).map fun (k:Nat)=>D.int (lo + (k:Int))
theorem Ah {lo:Int} {n:Nat}:ItR K F (Itr lo n) (rng lo n):=by
 have hl:(rng lo n).length=n:=by simp [rng]
 refine⟨fun i H' _ lt=>by rw[hl] at lt;exact lt,fun i H' _ e=>by rw[hl] at e;exact Nat.le_of_eq e.symm,fun i H' x H'' d _ hd y=>?_⟩
 obtain⟨e1,e2⟩:=y
 subst e1 e2
 refine .inl ⟨rfl,?_⟩
 have hi:i < n:=by have:=(List.getElem?_eq_some_iff.mp hd).1;rw[hl] at this;exact this
 have:(rng lo n)[i]?=some (.int (lo + i)):=by unfold rng;rw[List.getElem?_map,List.getElem?_range hi];rfl
 rw[this] at hd;cases hd
 rfl
def iR1 (t3:TA3) (Γ:G) (Q:List D→G→Prop):Prop:=t3 Γ fun ds Γ1=>∃ j:Int,ds=[.int j]∧-(2 ^ 62)≤j∧j < 2 ^ 62∧Q (rng 0 j.toNat) Γ1
def iR2 (t3:TA3) (Γ:G) (Q:List D→G→Prop):Prop:=t3 Γ fun ds Γ1=>∃ i j:Int,ds=[.int i,.int j]∧(-(2 ^ 62)≤i∧i < 2 ^ 62∧-(2 ^ 62)≤j∧j < 2 ^ 62)∧Q (rng i (j - i).toNat) Γ1
theorem cU {tg a:Expr} {ta:TA} {a3:TA3} {p pos:Pos} (hg:Gl X "range") (hm:X.mg "range"=none) (ha:P3A K X [a] ta a3) (hs:starEach [a] X.env=[(false,eval a X.env)]:=by rfl):P3I K X tg (.Call (.Name "range" p) [a] [] pos) (wM ta) (iR1 a3):=⟨qx hg hm ha.pe hs,fun B F σ H Γ Q R e q k=>
 ha.rf B F σ H Γ _ _ e q fun vs H' ⟨F',Γ',ds,s,e',rv,j,h1,h2,h3,q'⟩=>by
  subst h1
  obtain⟨v,ws,rfl,r1,r2⟩:=rv
  cases r1;cases r2
  exact⟨j,rfl,h2,h3,k _ H' F' Γ' _ s e' Ah q'⟩⟩
def xm (xs ys:List D):List D:=(xs.zip ys).map fun p=>.tup [p.1,p.2]
def iZ3 (t3:TA3) (Γ:G) (Q:List D→G→Prop):Prop:=t3 Γ fun ds Γ1=>∃ xs ys,ds=[.lst xs,.lst ys]∧Q (xm xs ys) Γ1
def kY (xs:List D):List D:=xs.mapIdx fun i x=>.tup [.int i,x]
def iE3 (t3:TA3) (Γ:G) (Q:List D→G→Prop):Prop:=t3 Γ fun ds Γ1=>∃ xs,ds=[.lst xs]∧Q (kY xs) Γ1
theorem gj {xs:List D} {i:Nat} {d:D} (h:(kY xs)[i]?=some d):∃ x,xs[i]?=some x∧d=.tup [.int i,x]:=by
 unfold kY at h
 rw[List.getElem?_mapIdx] at h
 cases q:xs[i]? with
 | none=>rw[q] at h;cases h
 | some p=>rw[q] at h;cases h;exact⟨_,rfl,rfl⟩
theorem pZ {a:Expr} {ta:TA} {a3:TA3} {es:List Expr} {kt:Nat} {tp p pos:Pos} (hg:Gl X "enumerate") (hm:X.mg "enumerate"=none) (ha:P3A K X [a] ta a3) (hs:starEach [a] X.env=[(false,eval a X.env)]:=by rfl) :
  P3I K X (.Tuple es kt tp) (.Call (.Name "enumerate" p) [a] [] pos) (wO ta) (iE3 a3):=⟨uW hg hm ha.pe hs,fun B F σ H Γ Q R e q k=>
 ha.rf B F σ H Γ _ _ e q fun vs H' ⟨F',Γ',ds,s,e',rv,xs,h1,q'⟩=>by
  subst h1
  obtain⟨v,ws,rfl,⟨p1,vs1,rfl,g1,r1⟩,r3⟩:=rv
  cases r3
  refine⟨p1,vs1,rfl,e'.sub _ _ g1,k _ H' F' Γ' _ s e' ⟨fun i H'' sm lt=>?_,fun i H'' sm ei=>?_,fun i H'' x H3 d sm hd y=>?_⟩ q'⟩
  ·obtain⟨x,hx,_⟩:=gj (List.getElem?_eq_getElem lt)
   obtain⟨v,hv,_⟩:=r1.get hx
   exact⟨vs1,v,sm _ _ g1,hv⟩
  ·refine⟨vs1,sm _ _ g1,?_⟩
   subst ei
   unfold kY
   rw[List.length_mapIdx,r1.length]
   exact Nat.le_refl _
  ·obtain⟨t,zs1,x1,ht,a1,b1,rfl,rfl⟩:=y
   rw[sm _ _ g1] at a1;cases a1
   obtain⟨dx,hx,rfl⟩:=gj hd
   obtain⟨v,hv,rv⟩:=r1.get hx
   rw[b1] at hv;cases hv
   exact .inr ⟨t,_,[.int i,dx],ht,rfl,rfl,⟨_,_,rfl,rfl,_,_,rfl,rv,rfl⟩,rfl⟩⟩
theorem um {p:Addr} {vs:List V} (h:H p=some (.lst vs)):tyV K "list" (.ref p) H:=.inl ⟨rfl,_,SqL.of h⟩
theorem En.bS (e:En K B F σ H Γ) {i:Nat} {xs:List D} (h:bS Γ i=some xs):∃ p vs,σ[i]?=some (some (V.ref p))∧H p=some (.lst vs)∧au K F xs vs:=by
 obtain⟨p,a,b,vs,c,d⟩:=e.hl i _ (kS h)
 exact⟨p,vs,a,c,d⟩
def zz (i:Nat) (e3:TE3) (Γ:G) (Q:RV→G→Prop):Prop:=(∃ xs,bS Γ i=some xs)∧e3 Γ fun r Γ1=>∃ xs,bS Γ1 i=some xs∧xs.length < sizeLine∧Q (.fz .non) (putD Γ1 i (.lst (xs++[r.d])))
theorem uI {te:TE} {e3:TE3} (i:Nat) (h:Ref K te e3):Ref K (tBM K "list" lO (eY i) (hX te jS)) (zz i e3):=by
 intro B F σ H Γ Q QQ e ⟨⟨xs0,h0⟩,q⟩ k
 obtain⟨p,vs0,a0,b0,_⟩:=e.bS h0
 refine⟨_,a0,um b0,h B F σ H Γ _ _ e q fun v H' ⟨F',Γ',r,s,e',rv,xs,hx,hz,q'⟩=>?_⟩
 obtain⟨F2,s2,e2,r2⟩:=e'.frozen rv
 obtain⟨p',vs,a,b,c⟩:=e2.bS hx
 rw[a0] at a;cases a
 exact⟨p,vs,v,rfl,rfl,b,by rw[c.length];exact hz,k _ _ ⟨F2,_,.fz .non,s.trans s2,e2.mut hx a0 (au.append (ys:=[r.d]) c ⟨v,[],rfl,r2,rfl⟩),rfl,q'⟩⟩
def ext3 (i:Nat) (b3:TB3) (Γ:G) (Q:RV→G→Prop):Prop:=(∃ xs,bS Γ i=some xs)∧b3 Γ fun r Γ1=>∃ xs ys,bS Γ1 i=some xs∧r.at Γ1=some (.lst ys)∧xs.length + ys.length≤sizeLine∧Q (.fz .non) (putD Γ1 i (.lst (xs++ys)))
def B4 (i:Nat) (f:List D→List D) (Γ:G) (Q:RV→G→Prop):Prop:=∃ xs,bS Γ i=some xs∧Q (.fz .non) (putD Γ i (.lst (f xs)))
variable {o e:Expr} {te:TE} {e3:TE3} {eb:TB3} {apos cpos:Pos}
theorem kP (i:Nat) {x:Str} {px:Pos} (hK:X.K=K) (hx:P3B K X (.Name x px) (eY i) (bor i)) (he:P3 K X e te e3) (hbase:attributeBase (.Name x px) "append" X.env (eval (.Name x px) X.env)=eval (.Name x px) X.env:=by rfl)
  (hfew:((backTo cpos (starEach [e] X.env)).all (fun x=>!x.1) && (backToKw cpos (keywordEach [] X.env)).all (fun x=>x.1.isSome)
   && decide ([e].length + ([]:List Keyword).length + (if ([]:List Keyword).isEmpty then 0 else 1) < 30))=true:=by rfl)
  (hline:(apos.endLine == cpos.line)=true:=by rfl) (hs:starEach [e] X.env=(false,eval e X.env)::starEach [] X.env:=by rfl) (hplain:(backTo cpos (starEach [] X.env)).any (·.1)=false:=by rfl) :
  P3 K X (.Call (.Attribute (.Name x px) "append" apos) [e] [] cpos) (tBM K "list" lO (eY i) (hX te jS)) (zz i e3):=
 ⟨by subst hK;exact pM PySem.F.plainAttrs_list PySem.F.slot_list_append PySem.F.type_list_append qC hx.pe (cJ he.pe fm hs) hbase hfew hline hs hplain,uI i he.rf⟩
def pC (i:Nat) (k3:TB3) (e3:TE3) (D:E3) (Γ:G):Prop:=e3 Γ fun r Γ1=>(∃ xs,bS Γ1 i=some xs)∧k3 Γ1 fun b Γ2=>∃ xs k j,bS Γ2 i=some xs∧b.at Γ2=some (.int k)∧ixN xs.length k=some j∧D.nx (putD Γ2 i (.lst (xs.set j r.d)))
theorem uB (i:Nat) {x:Str} {px p2:Pos} {k:Expr} {tk:TE} {k3:TB3} (hx:P3B K X (.Name x px) (eY i) (bor i)) (hk:P3B K X k tk k3) (he:P3 K X e te e3) (pe:PS X (.Assign [.Subscript (.Name x px) k p2] e pos) (lB te (vN (eY i) tk pI))) :
  P3S K X (.Assign [.Subscript (.Name x px) k p2] e pos) (lB te (vN (eY i) tk pI)) (pC i k3 e3):=⟨pe,fun B F σ H Γ D D3 e k q=>
 he.rf B F σ H Γ _ _ e q fun v H' ⟨F',Γ',r,s,e',rv,⟨xs0,h0⟩,q'⟩=>by
  obtain⟨F2,s2,e2,r2⟩:=e'.frozen rv
  obtain⟨p,vs0,a0,b0,_⟩:=e2.bS h0
  refine⟨_,a0,hk.rf B F2 σ H' Γ' _ _ e2 q' fun u H2 ⟨F3,Γ3,bo,s3,e3,rb,xs,kk,j,hx,hb,hj,q3⟩=>?_⟩
  obtain⟨p',vs,a,b,c⟩:=e3.bS hx
  rw[a0] at a;cases a
  have hu:u=.int kk:=e3.bo rb hb
  exact⟨p,vs,kk,j,rfl,hu,b,by rw[c.length];exact hj,k.nx F3 σ _ _ ((s.trans s2).trans s3) (e3.mut hx a0 (au.set (r2.mono s3) j c)) q3⟩⟩
end
end L3
namespace L3
open PySem L2 PySem.Spec
section
variable {K:PySem.W.Frag} {X:Cx} {B:Bs} {F H:Hp} {σ:L2.St} {Γ:G} {pos:Pos}
def eX:Option (Option Sl)→Option Sl
 | some (some (.fz d))=>some (.fz d)
 | some (some (.ow d))=>some (.ln d)
 | some (some (.ln d))=>some (.ln d)
 | _=>none
def kh (Γ:G):Bo→Option Sl
 | .d x=>some (.fz x)
 | .v i=>eX Γ[i]?
def bD:Option Bo→Option Nat
 | some (.v i)=>some i
 | _=>none
def sx (Γ:G) (σ:L2.St) (k:Nat):Option Bo→Option (Nat×Addr)
 | some (.v i)=>match Γ[i]?,σ[i]? with
  | some (some (.ow _)),some (some (.ref p))=>some (k,p)
  | some (some (.ln _)),some (some (.ref p))=>some (k,p)
  | _,_=>none
 | _=>none
def ownOf (Γ:G) (σ:L2.St) (bs:List (Option Bo)):List (Nat×Addr):=(List.range bs.length).filterMap fun k=>(bs[k]?).bind (sx Γ σ k)
theorem iS {bs:List (Option Bo)} {k:Nat} {p:Addr}:(k,p)∈ownOf Γ σ bs↔∃ i d,bs[k]?=some (some (Bo.v i))∧Hld Γ i d∧σ[i]?=some (some (V.ref p)):=by
 unfold ownOf
 rw[List.mem_filterMap]
 constructor
 ·rintro⟨k',_,h⟩
  cases q:bs[k']? with
  | none=>rw[q] at h;cases h
  | some o=>
   rw[q] at h
   change sx Γ σ k' o=some (k,p) at h
   unfold sx at h
   split at h
   ·rename_i i
    split at h
    ·rename_i d p' h1 h2
     cases h
     exact⟨i,d,q,.inl h1,h2⟩
    ·rename_i d p' h1 h2
     cases h
     exact⟨i,d,q,.inr h1,h2⟩
    ·cases h
   ·cases h
 ·rintro⟨i,d,h1,h2,h3⟩
  refine⟨k,List.mem_range.mpr (List.getElem?_eq_some_iff.mp h1).1,?_⟩
  rw[h1]
  show sx Γ σ k (some (Bo.v i))=_
  unfold sx
  rcases h2 with h2 | h2
  ·simp only[h2,h3]
  ·simp only[h2,h3]
def cT (Γ:G) (bs:List (Option Bo)):G:=bs.map fun o=>o.bind (kh Γ)
theorem dY {bs:List (Option Bo)} {k:Nat} {s:Sl}:(cT Γ bs)[k]?=some (some s)↔∃ bo,bs[k]?=some (some bo)∧kh Γ bo=some s:=by
 unfold cT
 rw[List.getElem?_map]
 constructor
 ·intro h
  cases q:bs[k]? with
  | none=>rw[q] at h;cases h
  | some o=>
   rw[q] at h
   cases o with
   | none=>cases h
   | some bo=>exact⟨bo,rfl,by simpa using h⟩
 ·rintro⟨bo,h1,h2⟩
  rw[h1];simp [h2]
theorem wb {bo:Bo} {d:D} (h:kh Γ bo=some (.ln d)):∃ i,bo=.v i∧Hld Γ i d:=by
 cases bo with
 | d x=>cases h
 | v i=>
  change eX Γ[i]?=_ at h
  unfold eX at h
  split at h
  ·cases h
  ·cases h;rename_i q;exact⟨i,rfl,.inl q⟩
  ·cases h;rename_i q;exact⟨i,rfl,.inr q⟩
  ·cases h
theorem wc {bo:Bo} {d:D} (h:kh Γ bo=some (.fz d)):bo=.d d∨∃ i,bo=.v i∧Γ[i]?=some (some (Sl.fz d)):=by
 cases bo with
 | d x=>cases h;exact .inl rfl
 | v i=>
  change eX Γ[i]?=_ at h
  unfold eX at h
  split at h
  ·cases h;rename_i q;exact .inr ⟨i,rfl,q⟩
  ·cases h
  ·cases h
  ·cases h
theorem mz {bo:Bo} {d:D}:kh Γ bo≠some (.ow d):=by
 intro h
 cases bo with
 | d x=>cases h
 | v i=>change eX Γ[i]?=_ at h;unfold eX at h;split at h <;> cases h
theorem jM {bs:List (Option Bo)}:∀ (k:Nat) (d:D),(cT Γ bs)[k]?≠some (some (Sl.ow d)):=fun k d h=>by
 obtain⟨bo,_,h⟩:=dY.mp h
 exact mz h
theorem En.inner (e:En K B F σ H Γ) {bs:List (Option Bo)} {σc:L2.St} (hl:σc.length=bs.length) (hσ:∀ (k:Nat) (bo:Bo) (s:Sl),bs[k]?=some (some bo)→kh Γ bo=some s→∃ v,σc[k]?=some (some v)∧jm K F σ bo v)
  (nd:∀ (k k' i:Nat),bs[k]?=some (some (Bo.v i))→bs[k']?=some (some (Bo.v i))→k=k'):En K ⟨F,H,ownOf Γ σ bs⟩ F σc H (cT Γ bs):=by
 have held:∀ {k d},Hld (cT Γ bs) k d→∃ i p,bs[k]?=some (some (Bo.v i))∧Hld Γ i d∧σ[i]?=some (some (V.ref p))∧σc[k]?=some (some (V.ref p)):=fun {k d} q=>by
  rcases q with q | q
  ·obtain⟨bo,h1,h2⟩:=dY.mp q
   exact absurd h2 mz
  ·obtain⟨bo,h1,h2⟩:=dY.mp q
   obtain⟨v,h3,h4⟩:=hσ k bo _ h1 h2
   obtain⟨i,rfl,h5⟩:=wb h2
   obtain⟨p,h6,_⟩:=e.hl i d h5
   rw[show σ[i]?=some (some v) from h4] at h6;cases h6
   exact⟨i,p,h1,h5,h4,h3⟩
 refine⟨e.sub,by unfold cT;rw[List.length_map];exact hl,?_,?_,?_,?_,?_,?_,aC.refl F,fun b o h=>.inl h,fun b o h _=>h,fun b h=>h⟩
 ·intro k d q
  obtain⟨bo,h1,h2⟩:=dY.mp q
  obtain⟨v,h3,h4⟩:=hσ k bo _ h1 h2
  refine⟨v,h3,?_⟩
  rcases wc h2 with rfl | ⟨i,rfl,h5⟩
  ·exact h4
  ·obtain⟨u,h6,h7⟩:=e.fz i d h5
   rw[show σ[i]?=some (some v) from h4] at h6;cases h6
   exact h7
 ·intro k d q
  obtain⟨i,p,h1,h2,h3,h4⟩:=held q
  obtain⟨p',h5,h6,h7⟩:=e.hl i d h2
  rw[h3] at h5;cases h5
  exact⟨p,h4,h6,h7⟩
 ·intro k d p q
  obtain⟨bo,h1,h2⟩:=dY.mp q
  exact absurd h2 mz
 ·intro k d p q a
  obtain⟨i,p',h1,h2,h3,h4⟩:=held (.inr q)
  rw[a] at h4;cases h4
  exact iS.mpr ⟨i,d,h1,h2,h3⟩
 ·intro k k' d d' p q1 q2 a1 a2
  obtain⟨i,p1,h1,h2,h3,h4⟩:=held q1
  obtain⟨i',p2,h1',h2',h3',h4'⟩:=held q2
  rw[a1] at h4;cases h4
  rw[a2] at h4';cases h4'
  have:=e.dis i i' d d' p h2 h2' h3 h3'
  subst this
  exact nd k k' i h1 h1'
 ·intro k p q
  obtain⟨i,d,h1,h2,h3⟩:=iS.mp q
  have ha:kh Γ (.v i)=some (.ln d):=by
   show eX Γ[i]?=_
   rcases h2 with h2 | h2 <;> rw[h2] <;> rfl
  obtain⟨v,h4,h5⟩:=hσ k _ _ h1 ha
  rw[show σ[i]?=some (some v) from h5] at h3;cases h3
  exact⟨h4,d,dY.mpr ⟨_,h1,ha⟩⟩
theorem mU {bs:List (Option Bo)}:∀ k p,(k,p)∈ownOf Γ σ bs→∃ j d,(bs.map bD)[k]?=some (some j)∧Hld Γ j d∧σ[j]?=some (some (V.ref p)):=fun k p h=>by
 obtain⟨i,d,h1,h2,h3⟩:=iS.mp h
 exact⟨i,d,by rw[List.getElem?_map,h1];rfl,h2,h3⟩
def dW (fr:List (Option Nat)):List (Option Bo):=fr.map fun o=>o.map Bo.v
def nu (fr:List (Option Nat)) (i3:TI3) (g3:TG3) (e3:TE3) (Γ:G) (Q:RV→G→Prop):Prop:=i3 Γ fun xs Γ1=>xs.length < sizeLine∧∃ Iv:Nat→List D→G→Prop,Iv 0 [] (cT Γ1 (dW fr))∧
 (∀ k d ys Γc,xs[k]?=some d→ys.length=k→Iv k ys Γc→g3 d Γc fun Γ2=>e3 Γ2 fun r Γ3=>Iv (k + 1) (ys++[r.d]) Γ3)∧∀ ys Γc,ys.length=xs.length→Iv xs.length ys Γc→Q (.fr (.lst ys)) (bB fr Γ1 Γc)
theorem t7 {fr:List (Option Nat)} (h:(fr.filterMap id).Nodup):∀ (k k' i:Nat),(dW fr)[k]?=some (some (Bo.v i))→(dW fr)[k']?=some (some (Bo.v i))→k=k':=by
 unfold dW
 have go:∀ (l:List (Option Nat)),(l.filterMap id).Nodup→∀ (k k' i:Nat),l[k]?=some (some i)→l[k']?=some (some i)→k=k':=by
  intro l
  induction l with
  | nil=>intro _ k k' i h;simp at h
  | cons o l ih=>
   intro hn k k' i h h'
   cases o with
   | none=>
    rw[List.filterMap_cons_none rfl] at hn
    cases k with
    | zero=>simp at h
    | succ k=>
     cases k' with
     | zero=>simp at h'
     | succ k'=>rw[ih hn k k' i (by simpa using h) (by simpa using h')]
   | some j=>
    rw[show List.filterMap id (some j::l)=j::List.filterMap id l from rfl,List.nodup_cons] at hn
    have mem:∀ {k:Nat},l[k]?=some (some i)→i∈l.filterMap id:=fun q=>List.mem_filterMap.mpr ⟨some i,List.mem_of_getElem? q,rfl⟩
    cases k with
    | zero=>
     simp at h;subst h
     cases k' with
     | zero=>rfl
     | succ k'=>exact absurd (mem (by simpa using h')) hn.1
    | succ k=>
     cases k' with
     | zero=>
      simp at h';subst h'
      exact absurd (mem (by simpa using h)) hn.1
     | succ k'=>rw[ih hn.2 k k' i (by simpa using h) (by simpa using h')]
 intro k k' i h1 h2
 refine go fr h k k' i ?_ ?_
 ·rw[List.getElem?_map] at h1
  cases q:fr[k]? with
  | none=>rw[q] at h1;cases h1
  | some o=>rw[q] at h1;cases o with | none=>cases h1 | some j=>cases h1;rfl
 ·rw[List.getElem?_map] at h2
  cases q:fr[k']? with
  | none=>rw[q] at h2;cases h2
  | some o=>rw[q] at h2;cases o with | none=>cases h2 | some j=>cases h2;rfl
theorem sT {fr:List (Option Nat)}:(dW fr).map bD=fr:=by
 unfold dW
 rw[List.map_map]
 conv=>rhs;rw[← List.map_id fr]
 refine List.map_congr_left fun o _=>?_
 cases o <;> rfl
theorem En.blk (e:En K B F σ H Γ) {fr:List (Option Nat)} (nd:(fr.filterMap id).Nodup):En K ⟨F,H,ownOf Γ σ (dW fr)⟩ F (jl fr σ) H (cT Γ (dW fr)):=by
 refine e.inner (by unfold jl dW;simp) (fun k bo s h1 h2=>?_) (t7 nd)
 unfold dW at h1
 rw[List.getElem?_map] at h1
 cases q:fr[k]? with
 | none=>rw[q] at h1;cases h1
 | some o=>
  rw[q] at h1
  cases o with
  | none=>cases h1
  | some j=>
   cases h1
   have:∃ d,Gat Γ j=some d:=by
    change eX Γ[j]?=_ at h2
    unfold eX at h2
    unfold Gat
    split at h2 <;> first | (cases h2;done) | (rename_i w;rw[w];exact⟨_,rfl⟩) | exact⟨_,rfl⟩
   obtain⟨d,hd⟩:=this
   obtain⟨v,hv,_⟩:=e.get hd
   refine⟨v,?_,hv⟩
   unfold jl
   rw[List.getElem?_map,q]
   simp [hv]
theorem mO {fr:List (Option Nat)} {wi:TI} {i3:TI3} {g:TG} {g3:TG3} {te:TE} {e3:TE3} (nd:(fr.filterMap id).Nodup) (hi:BM K wi i3) (hg:BN K g g3) (he:Ref K te e3):Ref K (mE fr wi g te) (nu fr i3 g3 e3):=by
 intro B F σ H Γ Q QQ e q k
 refine hi B F σ H Γ _ _ e q fun J H1 F1 Γ1 xs s1 e1 R ⟨hz,Iv,i0,it,ie⟩=>?_
 have eb:=e1.blk nd
 refine⟨fun i m ys σc H=>m=xs.length - i∧i≤xs.length∧∃ F' Γc ds,aC F1 F'∧En K ⟨F1,H1,ownOf Γ1 σ (dW fr)⟩ F' σc H Γc∧au K F' ds ys∧ds.length=i∧Iv i ds Γc,⟨_,rfl,Nat.zero_le _,F1,_,[],aC.refl _,eb,rfl,rfl,i0⟩,?_⟩
 rintro i m ys σc H2 ⟨rfl,hi',F2,Γ2,ds,s2,e2,r2,hl,iv⟩
 refine⟨by rw[r2.length,hl];omega,?_⟩
 by_cases lt:i < xs.length
 ·refine .inr ⟨R.go i H2 (s2.trans e2.sub) lt,fun x H3 y=>?_⟩
  have hd:xs[i]?=some xs[i]:=List.getElem?_eq_getElem lt
  obtain⟨F3,s3,e3',r3⟩:=R.turn s2 e2 hd y
  refine hg _ F3 σc H3 Γ2 x _ _ _ e3' r3 (it i _ ds Γ2 hd hl iv) fun σ2 Γ4 e4 q4=>?_
  refine⟨fun y H5=>∃ F5 Γ5 r,aC F3 F5∧En K ⟨F1,H1,ownOf Γ1 σ (dW fr)⟩ F5 σ2 H5 Γ5∧e9 K ⟨F1,H1,ownOf Γ1 σ (dW fr)⟩ F5 σ2 H5 Γ5 y r∧Iv (i + 1) (ds++[r.d]) Γ5,fun y H5 ⟨F5,Γ5,r,s5,e5,rv,iv5⟩=>?_,he _ F3 σ2 H3 Γ4 _ _ e4 q4 fun v H' p=>p⟩
  obtain⟨F6,s6,e6,r6⟩:=e5.frozen rv
  refine⟨xs.length - (i + 1),by omega,rfl,lt,F6,Γ5,ds++[r.d],((s2.trans s3).trans s5).trans s6,e6,?_,by simp [hl],iv5⟩
  exact au.append (ys:=[r.d]) (r2.mono ((s3.trans s5).trans s6)) ⟨y,[],rfl,r6,rfl⟩
 ·have z:i=xs.length:=by omega
  subst z
  refine .inl ⟨R.stop _ H2 (s2.trans e2.sub) rfl,fun l hl'=>k _ _ ?_⟩
  have eo:En K B F2 σ H2 (bB fr Γ1 Γ2):=e1.back (ls:=fr) e2 (by have:=mU (Γ:=Γ1) (σ:=σ) (bs:=dW fr);rw[sT] at this;exact this)
  exact Po.mono (s1.trans s2) (ig eo hl' r2 (ie ds Γ2 hl iv))
theorem bU {elt iter tg:Expr} {sc:Scope} {Nc:List Str} {fr:List (Option Nat)} {wi:TI} {i3:TI3} {g:TG} {g3:TG3} {te:TE} {e3:TE3} (hc:X.calm=true) (hi:P3I K X tg iter wi i3) (Bk:Blk X.N X.env.scope sc Nc fr)
  (hg:∀ s₀ H₀ C ex pn,P3G K (cm X sc Nc s₀ H₀ C ex pn) tg g g3) (he:∀ s₀ H₀ C ex pn,P3 K (cm X sc Nc s₀ H₀ C ex pn) elt te e3) (nd:(fr.filterMap id).Nodup:=by decide) (hs:∀ x,foldedSetIterable iter X.env x=pure x:=by intro _;rfl) :
  P3 K X (.ListComp elt [⟨tg,iter,[],0⟩] sc pos) (mE fr wi g te) (nu fr i3 g3 e3):=
 ⟨u5 hc hi.pe Bk (fun a b c d e=>(hg a b c d e).pe) (fun a b c d e=>(he a b c d e).pe) hs,mO nd hi.rf (hg X.s₀ X.H₀ 0 [] []).rf (he X.s₀ X.H₀ 0 [] []).rf⟩
theorem n8 {i:Nat} {x:Str} {px spos:Pos} {elt iter tg:Expr} {sc:Scope} {Nc:List Str} {fr:List (Option Nat)} {wi:TI} {i3:TI3} {g:TG} {g3:TG3} {te:TE} {e3:TE3} (hN:X.N.Nodup) (hi':X.N[i]?=some x) (hx:X.env.scope.names.lookup x=some .local)
  (hc:X.calm=true) (hi:P3I K X tg iter wi i3) (Bk:Blk X.N X.env.scope sc Nc fr)
  (hg:∀ s₀ H₀ C ex pn,P3G K (cm X sc Nc s₀ H₀ C ex pn) tg g g3) (he:∀ s₀ H₀ C ex pn,P3 K (cm X sc Nc s₀ H₀ C ex pn) elt te e3) (nd:(fr.filterMap id).Nodup:=by decide)
  (hsw:swapsWith (.ListComp elt [⟨tg,iter,[],0⟩] sc pos) (some (.Name x px)) spos.line X.env=pure true:=by rfl) (hs:∀ x,foldedSetIterable iter X.env x=pure x:=by intro _;rfl) :
  P3S K X (.Assign [.Name x px] (.ListComp elt [⟨tg,iter,[],0⟩] sc pos) spos) (lB (mE fr wi g te) (jh i)) (uz i (nu fr i3 g3 e3)):=
 ⟨oh hN hi' hx hc hi.pe Bk (fun a b c d e=>(hg a b c d e).pe) (fun a b c d e=>(he a b c d e).pe) hsw hs,pG (mO nd hi.rf (hg X.s₀ X.H₀ 0 [] []).rf (he X.s₀ X.H₀ 0 [] []).rf)⟩
abbrev S3:=G→(RV→G→Prop)→Prop
def sp3 (K:PySem.W.Frag) (n:Nat) (S:S3):Sp:=fun vs H Q _=>vs.length=n∧∃ F own Γa Q3,En K ⟨F,H,own⟩ F (vs.map some) H Γa∧(∀ (k:Nat) (d:D),Γa[k]?≠some (some (Sl.ow d)))∧S Γa Q3∧∀ r Γ',Q3 r Γ'→∀ v H' F',En K ⟨F,H,own⟩ F' (vs.map some) H' Γ'→e9 K ⟨F,H,own⟩ F' (vs.map some) H' Γ' v r→Q v H'
def cD:List Bo→List Nat
 | []=>[]
 | .d _::bs=>cD bs
 | .v i::bs=>i::cD bs
def oY (n:Nat) (S:S3) (t3:eP) (Γ:G) (Q:RV→G→Prop):Prop:=t3 Γ fun bs Γ1=>bs.length=n∧(cD bs).Nodup∧S (cT Γ1 (bs.map some)) fun r Γa=>Q r (bB ((bs.map some).map bD) Γ1 Γa)
theorem sS:∀ {bs:List Bo},(cD bs).Nodup→∀ (k k' i:Nat),(bs.map some)[k]?=some (some (Bo.v i))→(bs.map some)[k']?=some (some (Bo.v i))→k=k':=by
 intro bs h k k' i h1 h2
 have key:((((bs.map some).map bD)).filterMap id)=cD bs:=by
  clear h h1 h2
  induction bs with
  | nil=>rfl
  | cons b bs ih=>cases b with
   | d x=>simpa [bD,cD] using ih
   | v j=>simpa [bD,cD] using ih
 rw[← key] at h
 refine t7 h k k' i ?_ ?_
 ·unfold dW
  rw[List.getElem?_map,List.getElem?_map,h1];rfl
 ·unfold dW
  rw[List.getElem?_map,List.getElem?_map,h2];rfl
theorem bM.get {F:Hp}:∀ {bs:List Bo} {vs:List V},bM K F σ bs vs→∀ {k:Nat} {bo:Bo},bs[k]?=some bo→∃ v,vs[k]?=some v∧jm K F σ bo v
 | [],_,_,k,bo,e=>by simp at e
 | x::xs,_,⟨v,ws,h1,h2,h3⟩,0,d,e=>by subst h1;simp at e;subst e;exact⟨v,rfl,h2⟩
 | x::xs,_,⟨v,ws,h1,h2,h3⟩,i + 1,d,e=>by
  subst h1
  obtain⟨u,a,b⟩:=bM.get h3 (k:=i) (bo:=d) (by simpa using e)
  exact⟨u,by simpa using a,b⟩
theorem bM.length {F:Hp}:∀ {bs:List Bo} {vs:List V},bM K F σ bs vs→vs.length=bs.length
 | [],_,h=>by cases h;rfl
 | _::_,_,⟨v,ws,h1,h2,h3⟩=>by subst h1;simp [bM.length h3]
theorem En.args (e:En K B F σ H Γ) {bs:List Bo} {vs:List V} (r:bM K F σ bs vs) (nd:(cD bs).Nodup):En K ⟨F,H,ownOf Γ σ (bs.map some)⟩ F (vs.map some) H (cT Γ (bs.map some)):=by
 refine e.inner (by simp [r.length]) (fun k bo s h1 h2=>?_) (sS nd)
 rw[List.getElem?_map] at h1
 cases q:bs[k]? with
 | none=>rw[q] at h1;cases h1
 | some b=>
  rw[q] at h1;cases h1
  obtain⟨v,a,b⟩:=r.get q
  exact⟨v,by rw[List.getElem?_map,a];rfl,b⟩
theorem En.called (e:En K B F σ H Γ) {F' H':Hp} {bs:List (Option Bo)} {σc:L2.St} {Γa:G} {v:V} {r:RV} (e2:En K ⟨F,H,ownOf Γ σ bs⟩ F' σc H' Γa) (rv:e9 K ⟨F,H,ownOf Γ σ bs⟩ F' σc H' Γa v r) :
  aC F F'∧En K B F' σ H' (bB (bs.map bD) Γ Γa)∧e9 K B F' σ H' (bB (bs.map bD) Γ Γa) v r:=by
 have eo:=e.back e2 mU
 refine⟨e2.keep,eo,?_⟩
 have nw:∀ {p:Addr},H p=none→∀ (i:Nat) (x:D),Hld (bB (bs.map bD) Γ Γa) i x→σ[i]?≠some (some (V.ref p)):=fun {p} h4' i x hx hp=>by
  obtain⟨d0,w⟩:∃ d0,Hld Γ i d0:=by
   rcases hx with hx | hx <;> rw[cH] at hx
   ·cases w:Γ[i]? with
    | none=>rw[w] at hx;cases hx
    | some s=>rw[w] at hx;cases s with
     | none=>cases hx
     | some s=>cases s with
      | fz d=>cases hx
      | ow d=>exact⟨d,.inl w⟩
      | ln d=>cases hx
   ·cases w:Γ[i]? with
    | none=>rw[w] at hx;cases hx
    | some s=>rw[w] at hx;cases s with
     | none=>cases hx
     | some s=>cases s with
      | fz d=>cases hx
      | ow d=>cases hx
      | ln d=>exact⟨d,.inr w⟩
  obtain⟨p',a,b,c⟩:=e.hl i d0 w
  rw[hp] at a;cases a
  obtain⟨o,ho⟩:=c.some
  rw[h4'] at ho;cases ho
 cases r with
 | fz d=>exact rv
 | fr d=>
  obtain⟨p,h1,h2,h3,h4,h5⟩:=rv
  exact⟨p,h1,h2,h3,e.dom p h4,nw h4⟩
 | two xs ys=>
  obtain⟨t,p,q,vs,ws,h1,h2,h3,h4,h5,h6,h7,h8⟩:=rv
  exact⟨t,p,q,vs,ws,h1,h2,h3,h4,h5,h6,h7,fun z hz=>⟨(h8 z hz).1,e.dom z (h8 z hz).2.1,nw (h8 z hz).2.1⟩⟩
theorem rN {t:TA} {t3:eP} {S:S3} {n:Nat} {E:XK} (h:nJ K t t3):Ref K (pw (sp3 K n S) [] E t) (oY n S t3):=by
 intro B F σ H Γ Q QQ e q k
 refine h B F σ H Γ _ _ e q fun vs H1 ⟨F1,Γ1,bs,s1,e1,r1,hn,nd,q1⟩=>?_
 show sp3 K n S (vs++[]) H1 QQ E
 rw[List.append_nil]
 refine⟨by rw[r1.length];exact hn,F1,_,_,_,e1.args r1 nd,jM,q1,fun r Γa q v H' F' e2 rv=>?_⟩
 obtain⟨a,b,c⟩:=e1.called e2 rv
 exact k v H' ⟨F',_,r,s1.trans a,b,c,q⟩
def dG (Γa Γ':G):G:=Γa.mapIdx fun k s=>match s with
 | some (.ln d)=>(match Γ'[k]? with
  | some (some (.ln d'))=>some (.ln d')
  | _=>some (.ln d))
 | s=>s
theorem vh {Γa Γ':G} {k:Nat} {d:D} (h:Γa[k]?=some (some (Sl.ln d))) {d':D} (h':Γ'[k]?=some (some (Sl.ln d'))):(dG Γa Γ')[k]?=some (some (Sl.ln d')):=by
 unfold dG
 rw[List.getElem?_mapIdx,h]
 simp [h']
theorem iu {Γa Γ':G} {k:Nat} {s:Sl} (h:(dG Γa Γ')[k]?=some (some s)):(∃ d d',Γa[k]?=some (some (Sl.ln d))∧s=.ln d')∨(Γa[k]?=some (some s)∧∀ d,s≠.ln d):=by
 unfold dG at h
 rw[List.getElem?_mapIdx] at h
 cases w:Γa[k]? with
 | none=>rw[w] at h;cases h
 | some o=>
  rw[w] at h
  cases o with
  | none=>cases h
  | some s'=>
   cases s' with
   | fz d=>cases h;exact .inr ⟨rfl,fun d z=>by cases z⟩
   | ow d=>cases h;exact .inr ⟨rfl,fun d z=>by cases z⟩
   | ln d=>
    left
    simp only[Option.map_some,Option.some.injEq] at h
    split at h
    ·cases h;exact⟨d,_,rfl,rfl⟩
    ·cases h;exact⟨d,_,rfl,rfl⟩
theorem En.out {F0 H0 F' H':Hp} {own:List (Nat×Addr)} {σa σ':L2.St} {Γa Γ':G} (e0:En K ⟨F0,H0,own⟩ F0 σa H0 Γa) (hno:∀ (k:Nat) (d:D),Γa[k]?≠some (some (Sl.ow d))) (e1:En K ⟨F0,H0,own⟩ F' σ' H' Γ') {v:V} {r:RV} (rv:e9 K ⟨F0,H0,own⟩ F' σ' H' Γ' v r) :
  En K ⟨F0,H0,own⟩ F' σa H' (dG Γa Γ')∧e9 K ⟨F0,H0,own⟩ F' σa H' (dG Γa Γ') v r:=by
 have lnk:∀ {k:Nat} {d:D},Γa[k]?=some (some (Sl.ln d))→∃ p d',(k,p)∈own∧σa[k]?=some (some (V.ref p))∧σ'[k]?=some (some (V.ref p))∧Γ'[k]?=some (some (Sl.ln d'))∧(dG Γa Γ')[k]?=some (some (Sl.ln d')):=fun {k d} h=>by
  obtain⟨p,a,b,c⟩:=e0.hl k d (.inr h)
  have m:=e0.ln k d p h a
  obtain⟨a',d',b'⟩:=e1.par k p m
  exact⟨p,d',m,a,a',b',vh h b'⟩
 have hld:∀ {k:Nat} {d:D},Hld (dG Γa Γ') k d→∃ p d0,Γa[k]?=some (some (Sl.ln d0))∧(k,p)∈own∧σa[k]?=some (some (V.ref p))∧σ'[k]?=some (some (V.ref p))∧Γ'[k]?=some (some (Sl.ln d)):=fun {k d} h=>by
  rcases h with h | h
  ·rcases iu h with ⟨d1,d2,_,z⟩ | ⟨z,_⟩
   ·cases z
   ·exact absurd z (hno k d)
  ·rcases iu h with ⟨d1,d2,z,_⟩ | ⟨_,z⟩
   ·obtain⟨p,d',m,a,a',b',c'⟩:=lnk z
    rw[h] at c';cases c'
    exact⟨p,d1,z,m,a,a',b'⟩
   ·exact absurd rfl (z d)
 refine⟨⟨e1.sub,?_,?_,?_,?_,?_,?_,?_,e1.keep,e1.new,e1.rest,e1.dom⟩,?_⟩
 ·unfold dG;rw[List.length_mapIdx];exact e0.len
 ·intro k d q
  rcases iu q with ⟨d1,d2,_,z⟩ | ⟨z,_⟩
  ·cases z
  ·obtain⟨u,a,b⟩:=e0.fz k d z
   exact⟨u,a,b.mono e1.keep⟩
 ·intro k d q
  obtain⟨p,d0,_,m,a,a',b⟩:=hld q
  obtain⟨p',x,y,z⟩:=e1.hl k d (.inr b)
  rw[a'] at x;cases x
  exact⟨p,a,y,z⟩
 ·intro k d p q
  rcases iu q with ⟨d1,d2,_,z⟩ | ⟨z,_⟩
  ·cases z
  ·exact absurd z (hno k d)
 ·intro k d p q a
  obtain⟨p',d0,_,m,a',_⟩:=hld (.inr q)
  rw[a] at a';cases a'
  exact m
 ·intro k k' d d' p q1 q2 a1 a2
  obtain⟨p1,d1,z1,_⟩:=hld q1
  obtain⟨p2,d2,z2,_⟩:=hld q2
  exact e0.dis k k' d1 d2 p (.inr z1) (.inr z2) a1 a2
 ·intro k p q
  obtain⟨a,d,b⟩:=e0.par k p q
  obtain⟨p',d',m,a',_,_,c⟩:=lnk b
  exact⟨a,d',c⟩
 ·cases r with
  | fz d=>exact rv
  | fr d=>
   obtain⟨p,h1,h2,h3,h4,h5⟩:=rv
   refine⟨p,h1,h2,h3,h4,fun k x hx a=>?_⟩
   obtain⟨p',d0,_,m,a',b',c'⟩:=hld hx
   rw[a] at a';cases a'
   exact h5 k x (.inr c') b'
  | two xs ys=>
   obtain⟨t,p,q,vs,ws,h1,h2,h3,h4,h5,h6,h7,h8⟩:=rv
   refine⟨t,p,q,vs,ws,h1,h2,h3,h4,h5,h6,h7,fun z hz=>⟨(h8 z hz).1,(h8 z hz).2.1,fun k x hx a=>?_⟩⟩
   obtain⟨p',d0,_,m,a',b',c'⟩:=hld hx
   rw[a] at a';cases a'
   exact(h8 z hz).2.2 k x (.inr c') b'
end
end L3
namespace L3
open PySem L2 PySem.Spec PyProof.Rows
def dq (N:List Str) (Γa:G):G:=Γa++List.replicate (N.length - Γa.length) none
section
variable {P:Program} {w:World} {K:PySem.W.Frag} {mg:Str→Option Value} {base:Heap}
theorem En.start {B:Bs} {F H:Hp} {vs:List V} {Γa:G} {N:List Str} (e:En K B F (vs.map some) H Γa) (hl:Γa.length≤N.length):En K B F (L2.start N vs) H (dq N Γa):=by
 have len:=e.len
 rw[List.length_map] at len
 have hs:∀ {i:Nat},i < Γa.length→(L2.start N vs)[i]?=(vs.map some)[i]?:=fun {i} h=>by
  unfold L2.start
  rw[List.getElem?_append_left (by rw[List.length_map];omega)]
 have hg:∀ {i:Nat} {s:Sl},(dq N Γa)[i]?=some (some s)→i < Γa.length∧Γa[i]?=some (some s):=fun {i s} h=>by
  unfold dq at h
  by_cases lt:i < Γa.length
  ·rw[List.getElem?_append_left lt] at h;exact⟨lt,h⟩
  ·rw[List.getElem?_append_right (by omega)] at h
   have:=List.mem_of_getElem? h
   rw[List.mem_replicate] at this
   cases this.2
 have hh:∀ {i:Nat} {d:D},Hld (dq N Γa) i d→i < Γa.length∧Hld Γa i d:=fun h=>by
  rcases h with h | h
  ·exact⟨(hg h).1,.inl (hg h).2⟩
  ·exact⟨(hg h).1,.inr (hg h).2⟩
 refine⟨e.sub,?_,?_,?_,?_,?_,?_,?_,e.keep,e.new,e.rest,e.dom⟩
 ·unfold L2.start dq
  simp only[List.length_append,List.length_map,List.length_replicate]
  omega
 ·intro i d q
  obtain⟨lt,q⟩:=hg q
  rw[hs lt];exact e.fz i d q
 ·intro i d q
  obtain⟨lt,q⟩:=hh q
  rw[hs lt];exact e.hl i d q
 ·intro i d p q a
  obtain⟨lt,q⟩:=hg q
  rw[hs lt] at a;exact e.ow i d p q a
 ·intro i d p q a
  obtain⟨lt,q⟩:=hg q
  rw[hs lt] at a;exact e.ln i d p q a
 ·intro i j d d' p q1 q2 a1 a2
  obtain⟨l1,q1⟩:=hh q1
  obtain⟨l2,q2⟩:=hh q2
  rw[hs l1] at a1
  rw[hs l2] at a2
  exact e.dis i j d d' p q1 q2 a1 a2
 ·intro i p q
  obtain⟨a,d,b⟩:=e.par i p q
  have lt:i < Γa.length:=(List.getElem?_eq_some_iff.mp b).1
  refine⟨by rw[hs lt];exact a,d,?_⟩
  unfold dq
  rw[List.getElem?_append_left lt];exact b
theorem ok3 {x qual:Str} {st:Stmt} {f:Addr} {fd:FuncData} {N ps:List Str} {k:Nat} {S:S3} (F:Fun K x qual st f fd) (Sc:aJ N ps (ab st)) (hN:ps.length≤N.length:=by decide)
  (hbody:∀ (cdv:Value) (A:Around) (outer:List Env) (s:Shared) (H:Hp) (E:XK),bP k (A.deeper (envOfC qual (ab st) s.heap.objs.size f cdv))→
   ∃ t t3,jA K (i5 CX0 P w K mg base N qual (ab st) f cdv A outer s H E).nox (aj st) t t3∧∀ Γa Q,S Γa Q→Γa.length=ps.length→t3 { nx:=fun Γ'=>Q (.fz .non) (dG Γa Γ'),rt:=fun r Γ'=>Q r (dG Γa Γ') } (dq N Γa)) :
  aX P w K mg base CX0 (k + 1) f fd ps (sp3 K ps.length S):=by
 refine F.ok Sc (fun vs H Q E h=>h.1) fun cdv A outer s H vs Q E hr h=>?_
 obtain⟨hl,F0,own,Γa,Q3,e,hno,hS,hQ⟩:=h
 obtain⟨t,t3,ht,rd⟩:=hbody cdv A outer s H E hr
 have hla:Γa.length=ps.length:=by rw[← e.len,List.length_map];exact hl
 refine⟨t,ht.pe,ht.rf ⟨F0,H,own⟩ F0 _ H _ _ { nx:=fun Γ'=>Q3 (.fz .non) (dG Γa Γ'),rt:=fun r Γ'=>Q3 r (dG Γa Γ') } (e.start (N:=N) (by rw[hla];exact hN)) ⟨?_,?_,fun _ _ _ _ _ _ z=>False.elim z,fun _ _ _ _ _ _ z=>False.elim z⟩ (rd Γa Q3 hS hla)⟩
 ·intro F' σ' H' Γ' s' e' q
  obtain⟨a,b⟩:=e.out hno e' (v:=.non) (r:=.fz .non) rfl
  exact hQ _ _ q _ _ _ a b
 ·intro F' σ' H' Γ' v r s' e' rv q
  obtain⟨a,b⟩:=e.out hno e' rv
  exact hQ _ _ q _ _ _ a b
end
section
variable {K:PySem.W.Frag} {X:Cx} {k:Nat} {f C:Addr} {fd:FuncData} {ps:List Str} {x m:Str} {p pos apos:Pos} {e o:Expr} {es:List Expr} {ta:TE} {t:TA} {t3:eP} {o3:TB3} {n:Nat} {S:S3}
theorem aA (hK:X.K=K) (F:aX X.prog X.w X.K X.mg X.base CX0 k f fd ps (sp3 K n S)) (hr:bP k X.A) (hg:Gl X x) (hm:X.mg x=some (.ref f)) (hk:PySem.W.keepIn X.K (.ref f)=true) (hb:Binds X.K fd ps [])
  (ha:nL K X (e::es) t t3) (hdb:(x == ("__debug__":Str))=false:=by decide) (he:starEach (e::es) X.env=(false,eval e X.env)::starEach es X.env:=by rfl) (hpl:(backTo pos (starEach es X.env)).any (·.1)=false:=by rfl) :
  P3 K X (.Call (.Name x p) (e::es) [] pos) (pw (sp3 K n S) [] E0 t) (oY n S t3):=⟨u_ F hr hg hm hk hb .nil kM ha.pe hdb he hpl,rN ha.rf⟩
def pS (C:Addr) (m:Str) (n:Nat) (S:S3) (o3:TB3) (t3:eP) (Γ:G) (Q:RV→G→Prop):Prop:=o3 Γ fun x Γ1=>(∃ ns xs,x.at Γ1=some (.ins C ns xs)∧m∉ns)∧t3 Γ1 fun bs Γ2=>bs.length + 1=n∧(cD (x::bs)).Nodup∧S (cT Γ2 ((x::bs).map some)) fun r Γa=>Q r (bB (((x::bs).map some).map bD) Γ2 Γa)
theorem qF {ns:List Str}:∀ {gs:List (Str×V)} {m:Str},gs.map (·.1)=ns→m∉ns→gs.lookup m=none:=by
 induction ns with
 | nil=>intro gs m h _;cases gs with | nil=>rfl | cons=>cases h
 | cons a ns ih=>
  intro gs m h hn
  cases gs with
  | nil=>cases h
  | cons g gs=>
   simp only[List.map_cons,List.cons.injEq] at h
   obtain⟨rfl,h⟩:=h
   rw[List.mem_cons,not_or] at hn
   obtain⟨g1,g2⟩:=g
   rw[List.lookup_cons,show (m == g1)=false from beq_eq_false_iff_ne.mpr hn.1]
   exact ih h hn.2
theorem mM (ho:kA K ta o3) (ha:nJ K t t3):Ref K (kG C m (sp3 K n S) [] E0 ta t) (pS C m n S o3 t3):=by
 intro B F σ H Γ Q QQ e q kk
 refine ho B F σ H Γ _ _ e q fun v H0 ⟨F0,Γ0,bo,s0,e0,r0,⟨ns,xs,hx,hm⟩,q0⟩=>?_
 obtain⟨p,dx,gs,rfl,h1,h2,h3⟩:=e0.bo r0 hx
 refine⟨p,dx,gs,rfl,h1,qF h2 hm,ha B F0 σ H0 Γ0 _ _ e0 q0 fun vs H1 ⟨F1,Γ1,bs,s1,e1,r1,hn,nd,q1⟩=>?_⟩
 show sp3 K n S (V.ref p::(vs++[])) H1 QQ E0
 rw[List.append_nil]
 have rr:bM K F1 σ (bo::bs) (V.ref p::vs):=⟨_,_,rfl,r0.mono s1,r1⟩
 refine⟨by rw[rr.length];exact hn,F1,_,_,_,e1.args rr nd,jM,q1,fun r Γa q v H' F' e2 rv=>?_⟩
 obtain⟨a,b,c⟩:=e1.called e2 rv
 exact kk v H' ⟨F',_,r,(s0.trans s1).trans a,b,c,q⟩
theorem B1 {pl:Sem Bool} (hK:X.K=K) (he:P3B K X o ta o3) (c:Cls X.K C) (hm:Meth X.K C m f) (F:aX X.prog X.w X.K X.mg X.base CX0 k f fd ps (sp3 K n S)) (hr:bP k X.A) (hb:Binds X.K fd ps []) (ha:nL K X (e::es) t t3)
  (hst:starEach (e::es) X.env=(false,eval e X.env)::starEach es X.env:=by rfl) (hpl:(backTo pos (starEach es X.env)).any (·.1)=false:=by rfl)
  (ht:eval (.Call (.Attribute o m apos) (e::es) [] pos) X.env=(do
   let ov ← eval o X.env
   standAt apos.atName
   let (f,first) ← holding [ov] (getMethod ov m pl)
   callWith pos f first (backTo pos (starEach (e::es) X.env)) (backToKw pos (keywordEach [] X.env))):=by rfl) :
  P3 K X (.Call (.Attribute o m apos) (e::es) [] pos) (kG C m (sp3 K n S) [] E0 ta t) (pS C m n S o3 t3):=⟨uY he.pe c hm F hr hb .nil kM ha.pe hst hpl ht,mM he.rf ha.rf⟩
theorem fu {pl:Sem Bool} (hK:X.K=K) (he:P3B K X o ta o3) (c:Cls X.K C) (hm:Meth X.K C m f) (F:aX X.prog X.w X.K X.mg X.base CX0 k f fd ps (sp3 K n S)) (hr:bP k X.A) (hb:Binds X.K fd ps [])
  (ht:eval (.Call (.Attribute o m apos) [] [] pos) X.env=(do
   let ov ← eval o X.env
   standAt apos.atName
   let (f,first) ← holding [ov] (getMethod ov m pl)
   callWith pos f first (backTo pos (starEach [] X.env)) (backToKw pos (keywordEach [] X.env))):=by rfl) :
  P3 K X (.Call (.Attribute o m apos) [] [] pos) (kG C m (sp3 K n S) [] E0 ta jS) (pS C m n S o3 yy):=⟨r8 he.pe c hm F hr hb .nil kM ht,mM he.rf (ae (X:=X)).rf⟩
end
end L3
namespace L3
open PySem L2 PySem.Spec
section
variable {K:PySem.W.Frag} {X:Cx} {B:Bs} {F H:Hp} {σ:L2.St} {Γ:G} {pos p:Pos} {x:Str}
theorem kO {n:String} (hg:Gl X x) (hm:X.mg x=none) (hv:bootBuiltins x=some (.type n)) (hn:x≠"__name__":=by decide) (hd:(x == ("__debug__":Str))=false:=by decide):P3 K X (.Name x pos) (tC (.ty n)) (t3C (.ty n)):=
 ⟨va (v:=.ty n) hg hm hv rfl hn hd,jV fun _=>rfl⟩
theorem mK (i:Nat) {y:Str} {px p2:Pos} {k e:Expr} {tk te:TE} {k3:TB3} {e3:TE3} (hx:P3B K X (.Name y px) (eY i) (bor i)) (hk:P3B K X k tk k3) (he:P3 K X e te e3)
  (ha:∀ v,assign (.Subscript (.Name y px) k p2) X.env v=(do
   let ov ← holding [v] (eval (.Name y px) X.env)
   let iv ← holding [v,ov] (eval k X.env)
   standAt p2
   holding [v,ov,iv] (setItem ov iv v)
   release [v,ov,iv] []):=by intro _;rfl)
  (hs:swapsWithSole [.Subscript (.Name y px) k p2] e pos.line X.env=pure false:=by rfl) (hw:swappedStores [.Subscript (.Name y px) k p2] e X.env=pure none:=by rfl)
  (h1:(assignEach [.Subscript (.Name y px) k p2] X.env).map (·.2)=[assign (.Subscript (.Name y px) k p2) X.env]:=by rfl) :
  P3S K X (.Assign [.Subscript (.Name y px) k p2] e pos) (lB te (vN (eY i) tk pI)) (pC i k3 e3):=uB i hx hk he (x6 he.pe (ya hx.pe hk.pe set_list ha) hs hw h1)
def lz3 (t3:eP) (Γ:G) (Q:RV→G→Prop):Prop:=t3 Γ fun bs Γ1=>∃ xs ys,ats Γ1 bs=some [.lst xs,.lst ys]∧min xs.length ys.length < sizeLine∧Q (.fr (.lst (xm xs ys))) Γ1
theorem o4 {ls:List (Option Nat)} {cs:G} (h:ls.all (·.isNone)=true):bB ls Γ cs=Γ:=by
 have hn:∀ j,newD ls cs j=none:=by
  intro j
  cases q:newD ls cs j with
  | none=>rfl
  | some d=>
   obtain⟨k,a,_⟩:=dJ q
   have:=List.all_eq_true.mp h _ (List.mem_of_getElem? a)
   cases this
 refine List.ext_getElem? fun i=>?_
 rw[cH,hn]
 cases q:Γ[i]? with
 | none=>rfl
 | some s=>cases s with
  | none=>rfl
  | some s=>cases s <;> rfl
end
end L3
namespace L3
open PySem L2 PySem.Spec
theorem BF {α:Type} {a:α} {l:List α}:atI (a::l) 0=some a:=by
 unfold L2.atI ixN;simp
theorem BE {α:Type} {a b:α} {l:List α}:atI (a::b::l) 1=some b:=by
 have:ixN (a::b::l).length 1=some 1:=by
  unfold ixN;rw[if_pos (by decide),if_pos (by simp;omega)];rfl
 unfold L2.atI;rw[this];rfl
theorem BD {α:Type} {a b c:α} {l:List α}:atI (a::b::c::l) 2=some c:=by
 have:ixN (a::b::c::l).length 2=some 2:=by
  unfold ixN;rw[if_pos (by decide),if_pos (by simp;omega)];rfl
 unfold L2.atI;rw[this];rfl
theorem BC {α:Type} {a b c d:α} {l:List α}:atI (a::b::c::d::l) 3=some d:=by
 have:ixN (a::b::c::d::l).length 3=some 3:=by
  unfold ixN;rw[if_pos (by decide),if_pos (by simp;omega)];rfl
 unfold L2.atI;rw[this];rfl
theorem yQ:ixN 3 0=some 0:=rfl
theorem yP:ixN 3 1=some 1:=rfl
theorem yO:ixN 3 2=some 2:=rfl
theorem f_ {α:Type} {xs:List α} {k:Int} {d:α} (h:0≤k) (e:xs[k.toNat]?=some d):atI xs k=some d:=by
 obtain⟨j,rfl⟩:∃ j:Nat,k=(j:Int):=⟨k.toNat,by omega⟩
 exact v9 (by simpa using e)
theorem B2 {ns:List Int} {k:Int} (h0:0≤k) (h1:k < (ns.length:Int)):atI (ns.map D.int) k=some (.int (ns.getD k.toNat 0)):=by
 refine f_ h0 ?_
 have:k.toNat < ns.length:=by omega
 rw[List.getElem?_map,List.getElem?_eq_getElem this]
 simp [List.getD,this]
theorem v8 {ns:List Int} {k:Int} (h0:0≤k) (h1:k < (ns.length:Int)):atI ns k=some (ns.getD k.toNat 0):=by
 refine f_ h0 ?_
 have:k.toNat < ns.length:=by omega
 rw[List.getElem?_eq_getElem this]
 simp [List.getD,this]
theorem v_ {α:Type} {xs:List α} {k:Int} (h0:0≤k) (h1:k < (xs.length:Int)):∃ d,atI xs k=some d∧d∈xs:=by
 have:k.toNat < xs.length:=by omega
 exact⟨xs[k.toNat],f_ h0 (List.getElem?_eq_getElem this),List.getElem_mem this⟩
section
variable {K:PySem.W.Frag} {P:Program} {w:World} {mg:Str→Option Value} {base:Heap}
def wI (n:Nat):S3:=fun Γ Q=>∃ ns:List Int,Γ=[some (.fz (.scr ns))]∧ns.length≤n∧∀ Γ',Q (.fz (.bl true)) Γ'
theorem yG {k n:Nat} {f:Addr} {fd:FuncData} {ps:List Str} (F:aX P w K mg base CX0 k f fd ps (sp3 K 1 (wI n))) :
  aX P w K mg base CX0 k f fd ps (fun vs H Q _=>∃ (p:Addr) (ns:List Int),vs=[.ref p]∧SqL K H p (ns.map V.int)∧ns.length≤n∧∀ H',Q (.bl true) H'):=by
 refine F.imp fun vs H Q E h=>?_
 obtain⟨p,ns,rfl,hs,hn,q⟩:=h
 have go1:∀ {i:Nat} {s:Sl},([some (Sl.fz (.scr ns))]:G)[i]?=some (some s)→i=0∧s=.fz (.scr ns):=fun {i s} h=>by
  cases i with
  | zero=>cases h;exact⟨rfl,rfl⟩
  | succ i=>cases h
 refine⟨rfl,H,[],[some (.fz (.scr ns))],fun r _=>r=.fz (.bl true),⟨aC.refl H,rfl,?_,?_,?_,?_,?_,?_,aC.refl H,fun b o h=>.inl h,fun b o h _=>h,fun b h=>h⟩,?_,⟨ns,rfl,hn,fun _=>rfl⟩,?_⟩
 ·intro i d h
  obtain⟨rfl,e⟩:=go1 h
  cases e
  exact⟨_,rfl,p,rfl,hs⟩
 ·intro i d h
  rcases h with h | h <;> cases (go1 h).2
 ·intro i d p h
  cases (go1 h).2
 ·intro i d p h
  cases (go1 h).2
 ·intro i j d e p h
  rcases h with h | h <;> cases (go1 h).2
 ·intro i p h;cases h
 ·intro k d h
  cases (go1 h).2
 ·intro r Γ' e v H' F' _ rv
  subst e
  have:v=.bl true:=rv
  subst this
  exact q H'
end
end L3
namespace L3
open PySem L2 PySem.Spec PySem.SeqAt
def b2 (b:Bool):Int:=if b then 1 else 0
mutual
def eqN:Nat→D→D→Option Bool
 | _,.non,.non=>some true
 | _,.bl a,.bl b=>some (a == b)
 | _,.int a,.int b=>some (a == b)
 | _,.str a,.str b=>some (a == b)
 | n + 1,.lst xs,.lst ys=>cR n xs ys
 | n + 1,.tup xs,.tup ys=>cR n xs ys
 | _,_,_=>none
def cR:Nat→List D→List D→Option Bool
 | _,[],[]=>some true
 | n,x::xs,y::ys=>match eqN n x y,cR n xs ys with
  | some a,some b=>some (a && b)
  | _,_=>none
 | _,_,_=>some false
end
section
variable {K:PySem.W.Frag} {F H:Hp}
theorem j_ {n:Nat}:∀ {xs ys:List D} {k:Bool},cR n xs ys=some k→xs.length≠ys.length→k=false
 | [],[],_,_,h=>absurd rfl h
 | x::xs,[],_,e,_=>by unfold cR at e;cases e;rfl
 | [],y::ys,_,e,_=>by unfold cR at e;cases e;rfl
 | x::xs,y::ys,k,e,h=>by
  unfold cR at e
  split at e
  ·rename_i a b ha hb
   cases e
   rw[j_ hb (by simpa using h),Bool.and_false]
  ·cases e
theorem fR {n:Nat}:∀ {xs ys:List D} {k:Bool},cR n xs ys=some k→∃ e:Nat→Bool,(∀ (j:Nat) x y,xs[j]?=some x→ys[j]?=some y→eqN n x y=some (e j))∧k=((List.range (min xs.length ys.length)).all e && xs.length == ys.length)
 | [],[],k,h=>by unfold cR at h;cases h;exact⟨fun _=>true,fun j x y h=>by simp at h,by simp⟩
 | x::xs,[],k,h=>by unfold cR at h;cases h;exact⟨fun _=>true,fun j x y _ h=>by simp at h,by simp⟩
 | [],y::ys,k,h=>by unfold cR at h;cases h;exact⟨fun _=>true,fun j x y h=>by simp at h,by simp⟩
 | x::xs,y::ys,k,h=>by
  unfold cR at h
  split at h
  ·rename_i a b ha hb
   cases h
   obtain⟨e,h1,h2⟩:=fR hb
   refine⟨fun j=>match j with | 0=>a | j + 1=>e j,fun j x' y' hx hy=>?_,?_⟩
   ·cases j with
    | zero=>simp at hx hy;subst hx hy;exact ha
    | succ j=>exact h1 j x' y' (by simpa using hx) (by simpa using hy)
   ·subst h2
    have hm:min (x::xs).length (y::ys).length=min xs.length ys.length + 1:=by simp [Nat.succ_min_succ]
    rw[hm,List.range_succ_eq_map,List.all_cons,List.all_map]
    simp only[List.length_cons,Function.comp_def,Bool.and_assoc]
    congr 1
    congr 1
    simp
  ·cases h
mutual
theorem mh:∀ {n:Nat} {d d':D} {v:V} {k:Bool},Rep K F d v→Rep K F d' v→eqN n d d'=some k→k=true
 | n,d,d',v,k,h,h',e=>by
  unfold eqN at e
  split at e <;> first
   | (cases e;rfl)
   | (cases e;cases h;cases h';simp;done)
   | (cases e;cases h;cases h';done)
   | (cases e;cases h;obtain⟨_,_,z,_⟩:=h';cases z;done)
   | (cases e;cases h';obtain⟨_,_,z,_⟩:=h;cases z;done)
   | (obtain⟨p,vs,rfl,a,b⟩:=h;obtain⟨p',vs',q,a',b'⟩:=h';cases q;rw[a] at a';cases a';exact kW b b' e)
   | (obtain⟨p,vs,rfl,a,b⟩:=h;obtain⟨p',vs',q,a',b'⟩:=h';cases q;rw[a] at a';cases a';done)
   | (cases e;done)
theorem kW:∀ {n:Nat} {xs ys:List D} {vs:List V} {k:Bool},au K F xs vs→au K F ys vs→cR n xs ys=some k→k=true
 | n,[],[],_,k,_,_,e=>by unfold cR at e;cases e;rfl
 | n,x::xs,[],_,k,⟨v,ws,h1,_⟩,h',e=>by cases h';cases h1
 | n,[],y::ys,_,k,h,⟨v,ws,h1,_⟩,e=>by cases h;cases h1
 | n,x::xs,y::ys,_,k,⟨v,ws,h1,h2,h3⟩,⟨v',ws',h1',h2',h3'⟩,e=>by
  subst h1
  cases h1'
  unfold cR at e
  split at e
  ·rename_i a b ha hb
   cases e
   rw[mh h2 h2' ha,kW h3 h3' hb];rfl
  ·cases e
end
end
end L3
namespace L3
open PySem L2 PySem.Spec PySem.SeqAt
section
variable {K:PySem.W.Frag} {X:Cx} {F H:Hp} {pins:List (Addr×Obj)} {σ:L2.St} {s:Shared}
theorem Vals.at' {xs:List V} {us:List Value} (r:Vals xs us) {j:Nat} (h:j < us.toArray.size):∃ v,xs[j]?=some v∧RelV v (us.toArray[j]):=by
 have h1:j < xs.length:=by rw[r.length];simpa using h
 obtain⟨u,hu,ru⟩:=r.get (List.getElem?_eq_getElem h1)
 refine⟨_,List.getElem?_eq_getElem h1,?_⟩
 have:us.toArray[j]=u:=by
  have h2:j < us.length:=by simpa using h
  have h3:us[j]?=some us[j]:=List.getElem?_eq_getElem h2
  rw[hu] at h3;cases h3
  simp
 rw[this];exact ru
theorem lY (I:Inv X pins σ H s) {p:Addr} {vs:List V} (h:H p=some (.lst vs)):∃ its:List Value,Vals vs its∧s.heap.IsList p its.toArray:=by
 obtain⟨its,n,r,e,_⟩:=I.lst h
 exact⟨its,r,_,e,rfl,n,rfl⟩
theorem lX (I:Inv X pins σ H s) {p:Addr} {vs:List V} (h:H p=some (.tup vs)):∃ its:List Value,Vals vs its∧s.heap.IsTuple p its.toArray:=by
 obtain⟨its,r,⟨o,e,hc,n,d⟩,_⟩:=I.tuple (a:=p) (xs:=vs) (.inl (.inl h))
 exact⟨its,r,o,e,hc,n,d⟩
theorem mj {n:Nat} {A:Around} {xs ys:List D} {vs ws:List V} {us zs:List Value} {e:Nat→Bool} (ih:∀ {d d':D} {v v':V} {u u':Value} {k:Bool},Rep K F d v→Rep K F d' v'→RelV v u→RelV v' u'→eqN n d d'=some k→EqAt A s u u' k)
  (r1:au K F xs vs) (r2:au K F ys ws) (q1:Vals vs us) (q2:Vals ws zs) (he:∀ (j:Nat) x y,xs[j]?=some x→ys[j]?=some y→eqN n x y=some (e j)) :
  ∀ j (h1:j < us.toArray.size) (h2:j < zs.toArray.size),EqAt A s us.toArray[j] zs.toArray[j] (e j):=fun j h1 h2=>by
 obtain⟨v,hv,rv⟩:=Vals.at' q1 h1
 obtain⟨w,hw,rw'⟩:=Vals.at' q2 h2
 obtain⟨d,hd,rd⟩:=r1.vM hv
 obtain⟨d',hd',rd'⟩:=r2.vM hw
 exact ih rd rd' rv rw' (he j d d' hd hd')
theorem mP {n:Nat} {A:Around} {p q:Addr} {xs ys:List D} {vs ws:List V} {k:Bool} (I:Inv X pins σ H s) (ih:∀ {d d':D} {v v':V} {u u':Value} {k:Bool},Rep K F d v→Rep K F d' v'→RelV v u→RelV v' u'→eqN n d d'=some k→EqAt A.in1 s u u' k)
  (h1:H p=some (.lst vs)) (h2:H q=some (.lst ws)) (r1:au K F xs vs) (r2:au K F ys ws) (he:cR n xs ys=some k) (hu:A.units < cLine):RcAt A s (.ref p) (.ref q) k:=by
 obtain⟨us,q1,l1⟩:=lY I h1
 obtain⟨zs,q2,l2⟩:=lY I h2
 have n1:us.toArray.size=xs.length:=by rw[← r1.length,q1.length];simp
 have n2:zs.toArray.size=ys.length:=by rw[← r2.length,q2.length];simp
 by_cases hl:xs.length=ys.length
 ·obtain⟨e,g,rfl⟩:=fR he
  have:=RcAt.lists l1 l2 (by rw[n1,n2,hl]) hu (mj ih r1 r2 q1 q2 g)
  rw[n1] at this
  rw[hl,Nat.min_self,beq_self_eq_true,Bool.and_true]
  rw[hl] at this
  exact this
 ·rw[j_ he hl]
  refine RcAt.lists_lengths l1 l2 ?_ hu
  rw[n1,n2,bne_iff_ne];exact hl
theorem kL {n:Nat} {A:Around} {p q:Addr} {xs ys:List D} {vs ws:List V} {k:Bool} (I:Inv X pins σ H s) (ih:∀ {d d':D} {v v':V} {u u':Value} {k:Bool},Rep K F d v→Rep K F d' v'→RelV v u→RelV v' u'→eqN n d d'=some k→EqAt A.in1 s u u' k)
  (h1:H p=some (.tup vs)) (h2:H q=some (.tup ws)) (r1:au K F xs vs) (r2:au K F ys ws) (he:cR n xs ys=some k) (hu:A.units < cLine):RcAt A s (.ref p) (.ref q) k:=by
 obtain⟨us,q1,l1⟩:=lX I h1
 obtain⟨zs,q2,l2⟩:=lX I h2
 have n1:us.toArray.size=xs.length:=by rw[← r1.length,q1.length];simp
 have n2:zs.toArray.size=ys.length:=by rw[← r2.length,q2.length];simp
 obtain⟨e,g,rfl⟩:=fR he
 have:=RcAt.tuples l1 l2 hu (mj ih r1 r2 q1 q2 g)
 rw[n1,n2] at this
 exact this
theorem mi (I:Inv X pins σ H s) (sm:aC F H):∀ (n:Nat) {A:Around} {d d':D} {v v':V} {u u':Value} {k:Bool},A.units + n < cLine→Rep K F d v→Rep K F d' v'→RelV v u→RelV v' u'→eqN n d d'=some k→EqAt A s u u' k:=by
 intro n
 induction n with
 | zero=>
  intro A d d' v v' u u' k hu r r' q q' e
  unfold eqN at e
  split at e <;> (try (cases e;done)) <;> (try (rename_i hn;cases hn;done)) <;> cases r <;> cases r'
  ·cases e;cases q;cases q';exact EqAt.same _
  ·cases e;cases q;cases q';exact .bool_bool _ _
  ·cases e;obtain⟨t,rfl⟩:=q;obtain⟨t',rfl⟩:=q';exact .int_int _ _ _ _
  ·cases e;obtain⟨t,rfl⟩:=q;obtain⟨t',rfl⟩:=q';exact .str_str _ _ _ _
 | succ n ih=>
  intro A d d' v v' u u' k hu r r' q q' e
  have hu0:A.units < cLine:=by omega
  have hu1:A.in1.units + n < cLine:=by show A.units + 1 + n < cLine;omega
  have e0:=e
  unfold eqN at e
  split at e
  ·cases r;cases r';cases e;cases q;cases q';exact EqAt.same _
  ·cases r;cases r';cases e;cases q;cases q';exact .bool_bool _ _
  ·cases r;cases r';cases e;obtain⟨t,rfl⟩:=q;obtain⟨t',rfl⟩:=q';exact .int_int _ _ _ _
  ·cases r;cases r';cases e;obtain⟨t,rfl⟩:=q;obtain⟨t',rfl⟩:=q';exact .str_str _ _ _ _
  ·
   rename_i n' xs ys hn;cases hn
   have r0:=r;have r0':=r'
   obtain⟨p,vs,rfl,a1,b1⟩:=r
   obtain⟨p',vs',rfl,a2,b2⟩:=r'
   cases q;cases q'
   by_cases z:p=p'
   ·subst z
    rw[mh r0 r0' e0]
    exact EqAt.same _
   ·exact .of_refs z (mP I (fun r r' q q' e=>ih hu1 r r' q q' e) (sm _ _ a1) (sm _ _ a2) b1 b2 e hu0)
  ·
   rename_i n' xs ys hn;cases hn
   have r0:=r;have r0':=r'
   obtain⟨p,vs,rfl,a1,b1⟩:=r
   obtain⟨p',vs',rfl,a2,b2⟩:=r'
   cases q;cases q'
   by_cases z:p=p'
   ·subst z
    rw[mh r0 r0' e0]
    exact EqAt.same _
   ·exact .of_refs z (kL I (fun r r' q q' e=>ih hu1 r r' q q' e) (sm _ _ a1) (sm _ _ a2) b1 b2 e hu0)
  ·cases e
def rS (K:PySem.W.Frag) (n:Nat) (neg:Bool):R2:=fun x y H Q=>∃ F d d' k,aC F H∧dj K F H d x∧dj K F H d' y∧eqN (n + 1) d d'=some k∧Q (.bl (neg ^^ k)) H
theorem Ao (I:Inv X pins σ H s) (sm:aC F H) (n:Nat) {A:Around} {d d':D} {v v':V} {u u':Value} {k:Bool} (hu:A.units + n + 1 < cLine) (r:dj K F H d v) (r':dj K F H d' v') (q:RelV v u) (q':RelV v' u') (e:eqN (n + 1) d d'=some k):RcAt A s u u' k:=by
 have hu0:A.units < cLine:=by omega
 have hu1:A.in1.units + n < cLine:=by show A.units + 1 + n < cLine;omega
 unfold eqN at e
 split at e
 ·cases r;cases r';cases e;cases q;cases q';exact .none_none
 ·cases r;cases r';cases e;cases q;cases q';exact .bool_bool _ _
 ·cases r;cases r';cases e;obtain⟨t,rfl⟩:=q;obtain⟨t',rfl⟩:=q';exact .int_int _ _ _ _
 ·cases r;cases r';cases e;obtain⟨t,rfl⟩:=q;obtain⟨t',rfl⟩:=q';exact .str_str _ _ _ _
 ·rename_i n' xs ys hn;cases hn
  obtain⟨p,vs,rfl,a1,b1⟩:=r
  obtain⟨p',vs',rfl,a2,b2⟩:=r'
  cases q;cases q'
  exact mP I (fun r r' q q' e=>mi I sm _ hu1 r r' q q' e) a1 a2 b1 b2 e hu0
 ·rename_i n' xs ys hn;cases hn
  obtain⟨p,vs,rfl,a1,b1⟩:=r
  obtain⟨p',vs',rfl,a2,b2⟩:=r'
  cases q;cases q'
  exact kL I (fun r r' q q' e=>mi I sm _ hu1 r r' q q' e) (sm _ _ a1) (sm _ _ a2) b1 b2 e hu0
 ·cases e
theorem yo (hK:X.K=K) {n:Nat} (hu:X.A.units + n + 1 < cLine):OpR X (compareOp .Eq) (rS K n false):=by
 intro pins s σ H x y v u Q I rx ry h
 obtain⟨F,d,d',k,sm,r,r',e,q⟩:=h
 refine Ao I sm n hu r r' rx ry e _ _ _ _ (md I q (by simp))
def vQ (n:Nat) (neg:Bool) (x y:D) (Γ:G) (Q:RV→G→Prop):Prop:=∃ k,eqN (n + 1) x y=some k∧Q (.fz (.bl (neg ^^ k))) Γ
theorem tG {n:Nat} {neg:Bool}:gH K (rS K n neg) (vQ n neg):=by
 intro B F σ H Γ x y dx dy Q QQ e rx ry q k
 obtain⟨b,hb,q⟩:=q
 exact⟨F,dx,dy,b,e.sub,rx,ry,hb,k _ _ (ij e q)⟩
theorem eK (hK:X.K=K) {k:Nat} (hr:bP k X.A):C3 K X .Eq (rS K 20 false) (vQ 20 false):=⟨yo hK (by have:=hr.un;omega),tG⟩
end
end L3
namespace L3
open PySem L2 PySem.Spec PySem.SeqAt
section
variable {K:PySem.W.Frag} {X:Cx} {F H:Hp} {pins:List (Addr×Obj)} {σ:L2.St} {s:Shared}
theorem rF {n:Nat} {A:Around} {p q:Addr} {xs ys:List D} {vs ws:List V} {k:Bool} (I:Inv X pins σ H s) (ih:∀ {d d':D} {v v':V} {u u':Value} {k:Bool},Rep K F d v→Rep K F d' v'→RelV v u→RelV v' u'→eqN n d d'=some k→EqAt A.in1 s u u' k)
  (h1:H p=some (.lst vs)) (h2:H q=some (.lst ws)) (r1:au K F xs vs) (r2:au K F ys ws) (he:cR n xs ys=some k) (hu:A.units < cLine):RcNeAt A s (.ref p) (.ref q) (!k):=by
 obtain⟨us,q1,l1⟩:=lY I h1
 obtain⟨zs,q2,l2⟩:=lY I h2
 have n1:us.toArray.size=xs.length:=by rw[← r1.length,q1.length];simp
 have n2:zs.toArray.size=ys.length:=by rw[← r2.length,q2.length];simp
 by_cases hl:xs.length=ys.length
 ·obtain⟨e,g,rfl⟩:=fR he
  have:=RcNeAt.lists l1 l2 (by rw[n1,n2,hl]) hu (mj ih r1 r2 q1 q2 g)
  rw[n1] at this
  rw[hl,Nat.min_self,beq_self_eq_true,Bool.and_true]
  rw[hl] at this
  exact this
 ·rw[j_ he hl]
  refine RcNeAt.lists_lengths l1 l2 ?_ hu
  rw[n1,n2,bne_iff_ne];exact hl
theorem qt {n:Nat} {A:Around} {p q:Addr} {xs ys:List D} {vs ws:List V} {k:Bool} (I:Inv X pins σ H s) (ih:∀ {d d':D} {v v':V} {u u':Value} {k:Bool},Rep K F d v→Rep K F d' v'→RelV v u→RelV v' u'→eqN n d d'=some k→EqAt A.in1 s u u' k)
  (h1:H p=some (.tup vs)) (h2:H q=some (.tup ws)) (r1:au K F xs vs) (r2:au K F ys ws) (he:cR n xs ys=some k) (hu:A.units < cLine):RcNeAt A s (.ref p) (.ref q) (!k):=by
 obtain⟨us,q1,l1⟩:=lX I h1
 obtain⟨zs,q2,l2⟩:=lX I h2
 have n1:us.toArray.size=xs.length:=by rw[← r1.length,q1.length];simp
 have n2:zs.toArray.size=ys.length:=by rw[← r2.length,q2.length];simp
 obtain⟨e,g,rfl⟩:=fR he
 have:=RcNeAt.tuples l1 l2 hu (mj ih r1 r2 q1 q2 g)
 rw[n1,n2] at this
 exact this
theorem Aj (I:Inv X pins σ H s) (sm:aC F H) (n:Nat) {A:Around} {d d':D} {v v':V} {u u':Value} {k:Bool} (hu:A.units + n + 1 < cLine) (r:dj K F H d v) (r':dj K F H d' v') (q:RelV v u) (q':RelV v' u') (e:eqN (n + 1) d d'=some k):RcNeAt A s u u' (!k):=by
 have hu0:A.units < cLine:=by omega
 have hu1:A.in1.units + n < cLine:=by show A.units + 1 + n < cLine;omega
 unfold eqN at e
 split at e
 ·cases r;cases r';cases e;cases q;cases q';exact .none_none
 ·cases r;cases r';cases e;cases q;cases q';exact .bool_bool _ _
 ·cases r;cases r';cases e;obtain⟨t,rfl⟩:=q;obtain⟨t',rfl⟩:=q';exact .int_int _ _ _ _
 ·cases r;cases r';cases e;obtain⟨t,rfl⟩:=q;obtain⟨t',rfl⟩:=q';exact .str_str _ _ _ _
 ·rename_i n' xs ys hn;cases hn
  obtain⟨p,vs,rfl,a1,b1⟩:=r
  obtain⟨p',vs',rfl,a2,b2⟩:=r'
  cases q;cases q'
  exact rF I (fun r r' q q' e=>mi I sm _ hu1 r r' q q' e) a1 a2 b1 b2 e hu0
 ·rename_i n' xs ys hn;cases hn
  obtain⟨p,vs,rfl,a1,b1⟩:=r
  obtain⟨p',vs',rfl,a2,b2⟩:=r'
  cases q;cases q'
  exact qt I (fun r r' q q' e=>mi I sm _ hu1 r r' q q' e) (sm _ _ a1) (sm _ _ a2) b1 b2 e hu0
 ·cases e
theorem yl (hK:X.K=K) {n:Nat} (hu:X.A.units + n + 1 < cLine):OpR X (compareOp .NotEq) (rS K n true):=by
 intro pins s σ H x y v u Q I rx ry h
 obtain⟨F,d,d',k,sm,r,r',e,q⟩:=h
 refine Aj I sm n hu r r' rx ry e _ _ _ _ (md I q (by simp))
theorem kc (hK:X.K=K) {k:Nat} (hr:bP k X.A):C3 K X .NotEq (rS K 20 true) (vQ 20 true):=⟨yl hK (by have:=hr.un;omega),tG⟩
theorem kX {n:Nat}:∀ (xs ys:List Int),cR n (xs.map .int) (ys.map .int)=some (decide (xs=ys))
 | [],[]=>by simp [cR]
 | x::xs,[]=>by simp [cR]
 | [],y::ys=>by simp [cR]
 | x::xs,y::ys=>by
  simp only[List.map_cons,cR,kX xs ys,eqN]
  congr 1
  rw[Bool.eq_iff_iff]
  simp
theorem nj {n:Nat} (xs ys:List Int):eqN (n + 1) (.lst (xs.map .int)) (.lst (ys.map .int))=some (decide (xs=ys)):=by
 unfold eqN;exact kX xs ys
end
end L3
namespace L2
open PySem PySem.Spec PyProof.Rows
structure Acc (Y:Cx) (D:Addr) (pl:List (Addr×Obj)) (ys:List V) (σ:St) (H:Hp) (s:Shared):Prop where
 us:∃ us,Inv Y ((D,fA us us.length)::pl) σ H s∧Vals ys us
 exD:D∈Y.ex
 nd:∀ p∈Y.pn++pl,p.1≠D
abbrev TB:=List V→St→Hp→(List V→St→Hp→Prop)→Prop
def PB (Y:Cx) (D:Addr) (m:Sem Fin→Sem Fin) (t:TB):Prop:=
 ∀ (k:Sem Fin) (pl:List (Addr×Obj)) (s:Shared) (ys:List V) (σ:St) (H:Hp) (Q:List V→St→Hp→Prop) (R:Fin→Shared→Prop),Acc Y D pl ys σ H s→t ys σ H Q→
  (∀ ys' σ' H' s',Acc Y D pl ys' σ' H' s'→Q ys' σ' H'→wpAny (model Y.prog Y.w) Y.A k R (fun _ _=>False) s')→wpAny (model Y.prog Y.w) Y.A (m k) R (fun _ _=>False) s
section
variable {Y:Cx} {D:Addr}
def DH (te:TE):TB:=fun ys σ H Q=>ys.length < sizeLine∧te σ H fun y H'=>Q (ys++[y]) σ H'
abbrev DE (elt:Expr) (D:Addr) (env:Env) (k:Sem Fin):Sem Fin:=(eval elt env >>= fun x=>call (.builtin "list.append") [.ref D,x] >>= fun _=>pure ()) >>= fun _=>k
def bIf (tc:TT) (t:TB):TB:=fun ys σ H Q=>tc σ H fun b H'=>if b=true then t ys σ H' Q else Q ys σ H'
abbrev ifK (c:Expr) (env:Env) (m:Sem Fin→Sem Fin) (k:Sem Fin):Sem Fin:=(forIn [c] true fun c r=>if r=true then do let ok ← isTrue c env (eval c env);pure (ForInStep.yield ok) else pure (ForInStep.yield r)) >>= fun ok=>if ok=true then m k else k
def xi (J:It) (g:TG) (t:TB):TB:=fun ys σ H Q=>∃ W:Nat→Nat→List V→St→Hp→Prop,(∃ m,W 0 m ys σ H)∧∀ i m ys σ H,W i m ys σ H→
 (J.stop i H∧Q ys σ H)∨(J.go i H∧∀ x H',J.yld i H x H'→g x σ H' fun σ2 H2=>t ys σ2 H2 fun ys' σ' H''=>∃ m',m' < m∧W (i + 1) m' ys' σ' H'')
end
end L2
namespace L2
open PySem PySem.Spec PyProof.Rows
section
variable {prog:Program} {w:World} {A:Around} {R:Result→Shared→Prop} {s:Shared}
end
section
variable {Y:Cx} {D:Addr}
def DG (wi:TI) (g:TG) (t:TB):TB:=fun ys σ H Q=>wi σ H fun J H1=>xi J g t ys σ H1 Q
abbrev Dx (elt:Expr) (gens:List Comprehension) (sc:Scope) (pos:Pos) (d:Nat) (iter:Expr) (D:Addr) (env:Env) (k:Sem Fin):Sem Fin:=
 eval iter env >>= fun x=>standAt iter.pos >>= fun _=>foldedSetIterable iter env x >>= fun x=>holding [x] (pyIter x) >>= fun itv=>runOwn (.compStart (.ListComp elt gens sc pos) d itv (.ref D) env) env >>= fun _=>k
end
end L2
namespace L2
open PySem PySem.Spec PyProof.Rows
section
variable {X:Cx}
def Cd (fr:List (Option Nat)) (wi:TI) (g:TG) (t:TB):TE:=fun σ H Q=>wi σ H fun J H1=>xi J g t [] (jl fr σ) H1 fun ys _ H'=>ys.length < sizeLine∧∀ l,H' l=none→Q (.ref l) (upd H' l (.lst ys))
end
end L2
namespace L3
open PySem L2 PySem.Spec
abbrev kz:=List D→G→(List D→G→Prop)→Prop
def PoL (K:PySem.W.Frag) (B:Bs) (F:Hp) (Q:List D→G→Prop):List V→L2.St→Hp→Prop:=fun ys' σ' H'=>∃ F' Γ' ds',aC F F'∧En K B F' σ' H' Γ'∧au K F' ds' ys'∧Q ds' Γ'
def BO (K:PySem.W.Frag) (t:TB) (b3:kz):Prop:=∀ (B:Bs) (F:Hp) (σ:L2.St) (H:Hp) (Γ:G) (ys:List V) (ds:List D) (Q:List D→G→Prop) (QQ:List V→L2.St→Hp→Prop),En K B F σ H Γ→au K F ds ys→b3 ds Γ Q→(∀ ys' σ' H',PoL K B F Q ys' σ' H'→QQ ys' σ' H')→t ys σ H QQ
structure Ed (K:PySem.W.Frag) (Y:Cx) (D:Addr) (m:Sem Fin→Sem Fin) (t:TB) (b3:kz):Prop where
 pe:PB Y D m t
 rf:BO K t b3
def Bm (e3:TE3) (ys:List D) (Γ:G) (Q:List D→G→Prop):Prop:=ys.length < sizeLine∧e3 Γ fun r Γ1=>Q (ys++[r.d]) Γ1
def CY (c3:TT3) (b3:kz) (ys:List D) (Γ:G) (Q:List D→G→Prop):Prop:=c3 Γ fun b Γ1=>match b with
 | true=>b3 ys Γ1 Q
 | false=>Q ys Γ1
def sP (xs:List D) (g3:TG3) (b3:kz) (ys:List D) (Γ:G) (Q:List D→G→Prop):Prop:=∃ Iv:Nat→List D→G→Prop,Iv 0 ys Γ∧(∀ k d ys Γ,xs[k]?=some d→Iv k ys Γ→g3 d Γ fun Γ'=>b3 ys Γ' (Iv (k + 1)))∧∀ ys Γ,Iv xs.length ys Γ→Q ys Γ
def Al (i3:TI3) (g3:TG3) (b3:kz) (ys:List D) (Γ:G) (Q:List D→G→Prop):Prop:=i3 Γ fun xs Γ1=>sP xs g3 b3 ys Γ1 Q
def tO (fr:List (Option Nat)) (i3:TI3) (g3:TG3) (b3:kz) (Γ:G) (Q:RV→G→Prop):Prop:=i3 Γ fun xs Γ1=>sP xs g3 b3 [] (cT Γ1 (dW fr)) fun ys Γc=>ys.length < sizeLine∧Q (.fr (.lst ys)) (bB fr Γ1 Γc)
section
variable {K:PySem.W.Frag} {X Y:Cx} {Da:Addr} {pos p0:Pos}
end
end L3
namespace L3
open PySem L2 PySem.Spec
theorem Bj {n:Nat} {a b:Int}:eqN n (.int a) (.int b)=some (a == b):=by cases n <;> rfl
theorem Bi {n:Nat} {a b:Str}:eqN n (.str a) (.str b)=some (a == b):=by cases n <;> rfl
theorem Bl {n:Nat} {a b:Bool}:eqN n (.bl a) (.bl b)=some (a == b):=by cases n <;> rfl
def fo (s:Option D):Option Sl:=s.map Sl.fz
theorem ze {s:Option Sl} {Γ:G} {i:Nat}:aZ (s::Γ) (i + 1)=aZ Γ i:=rfl
theorem zg {Γ:G}:aZ (none::Γ) 0=True:=rfl
theorem zb {d:D} {Γ:G}:aZ (some (.fz d)::Γ) 0=True:=rfl
theorem zc {d:D} {Γ:G}:aZ (some (.ow d)::Γ) 0=True:=rfl
theorem zf {s:Option D} {Γ:G}:aZ (fo s::Γ) 0=True:=by cases s <;> rfl
end L3
universe u
namespace L3
open PySem L2 PySem.Spec
structure Tag {α:Sort u} (q:α):Type where
def m1 (o:Option D) (k:D→Prop) (_:Tag k):Prop:=match o with
 | some d=>k d
 | none=>False
theorem pT {d:D} {k:D→Prop} {t:Tag k}:m1 (some d) k t=k d:=rfl
theorem jf {o:Option D} {k:D→Prop} {t:Tag k}:m1 o k t↔∃ d,o=some d∧k d:=by
 cases o with
 | none=>exact⟨fun h=>h.elim,fun ⟨_,h,_⟩=>by cases h⟩
 | some d=>exact⟨fun h=>⟨d,rfl,h⟩,fun ⟨_,h,q⟩=>by cases h;exact q⟩
def hold (S:S3) (Γ:G) (Q:RV→G→Prop) (_:Tag Q):Prop:=S Γ Q
def xa (fr:List (Option Nat)) (i3:TI3) (g3:TG3) (e3:TE3) (Γ:G) (Q:RV→G→Prop) (_:Tag (fr,i3,g3,e3)) (_:Tag Q):Prop:=nu fr i3 g3 e3 Γ Q
def Bg (i3:TI3) (g3:TG3) (b3:TS3) (D:E3) (Γ:G) (_:Tag (i3,g3,b3)) (_:Tag D):Prop:=zj i3 g3 b3 D Γ
def tM (fr:List (Option Nat)) (i3:TI3) (g3:TG3) (b3:kz) (Γ:G) (Q:RV→G→Prop) (_:Tag (fr,i3,g3,b3)) (_:Tag Q):Prop:=tO fr i3 g3 b3 Γ Q
theorem tN {fr:List (Option Nat)} {i3:TI3} {g3:TG3} {b3:kz} {Γ:G} {Q:RV→G→Prop}:tO fr i3 g3 b3 Γ Q=tM fr i3 g3 b3 Γ Q ⟨⟩ ⟨⟩:=rfl
theorem vU {fr:List (Option Nat)} {i3:TI3} {g3:TG3} {e3:TE3} {Γ:G} {Q:RV→G→Prop}:nu fr i3 g3 e3 Γ Q=xa fr i3 g3 e3 Γ Q ⟨⟩ ⟨⟩:=rfl
theorem zi {i3:TI3} {g3:TG3} {b3:TS3} {D:E3} {Γ:G}:zj i3 g3 b3 D Γ=Bg i3 g3 b3 D Γ ⟨⟩ ⟨⟩:=rfl
section
variable {op:D→D→TE3} {a3 b3:TB3} {Γ:G} {Q:RV→G→Prop}
theorem rA:iO op a3 b3 Γ Q=(a3 Γ fun x Γ1=>b3 Γ1 fun y Γ2=>m1 (x.at Γ2) (fun dx=>m1 (y.at Γ2) (fun dy=>op dx dy Γ2 Q) ⟨⟩) ⟨⟩):=by
 unfold iO
 congr;funext x Γ1;congr;funext y Γ2
 refine propext ⟨fun ⟨dx,dy,h1,h2,h3⟩=>by rw[h1,h2];exact h3,fun h=>?_⟩
 obtain⟨dx,h1,h⟩:=jf.mp h
 obtain⟨dy,h2,h⟩:=jf.mp h
 exact⟨dx,dy,h1,h2,h⟩
theorem xF {op:D→TE3}:qm op a3 Γ Q=(a3 Γ fun x Γ1=>m1 (x.at Γ1) (fun dx=>op dx Γ1 Q) ⟨⟩):=by
 unfold qm
 congr;funext x Γ1
 exact propext jf.symm
theorem wL {xs:List D} {i:Int}:ix3 (.lst xs) (.int i) Γ Q=m1 (atI xs i) (fun d=>Q (.fz d) Γ) ⟨⟩:=propext jf.symm
theorem AU {xs:List D} {i:Int}:ix3 (.tup xs) (.int i) Γ Q=m1 (atI xs i) (fun d=>Q (.fz d) Γ) ⟨⟩:=propext jf.symm
def mL (o:Option (List D)) (k:List D→Prop) (_:Tag k):Prop:=match o with
 | some d=>k d
 | none=>False
theorem vz {d:List D} {k:List D→Prop} {t:Tag k}:mL (some d) k t=k d:=rfl
theorem vZ {c3:List D→TE3} {t3:eP}:ny c3 t3 Γ Q=(t3 Γ fun bs Γ1=>mL (ats Γ1 bs) (fun ds=>c3 ds Γ1 Q) ⟨⟩):=by
 unfold ny
 congr;funext bs Γ1
 refine propext ⟨fun ⟨ds,h,q⟩=>by rw[h];exact q,fun h=>?_⟩
 cases e:ats Γ1 bs with
 | none=>rw[e] at h;exact h.elim
 | some ds=>rw[e] at h;exact⟨ds,rfl,h⟩
def mN (o:Option Nat) (k:Nat→Prop) (_:Tag k):Prop:=match o with
 | some d=>k d
 | none=>False
theorem vy {d:Nat} {k:Nat→Prop} {t:Tag k}:mN (some d) k t=k d:=rfl
def mI (o:Option D) (k:Int→Prop) (_:Tag k):Prop:=match o with
 | some (.int d)=>k d
 | _=>False
theorem vA {d:Int} {k:Int→Prop} {t:Tag k}:mI (some (.int d)) k t=k d:=rfl
theorem ux {i:Nat} {k3:TB3} {e3:TE3} {D:E3}:pC i k3 e3 D Γ=(e3 Γ fun r Γ1=>(∃ xs,bS Γ1 i=some xs)∧k3 Γ1 fun b Γ2=>mL (bS Γ2 i) (fun xs=>mI (b.at Γ2) (fun k=>mN (ixN xs.length k) (fun j=>D.nx (putD Γ2 i (.lst (xs.set j r.d)))) ⟨⟩) ⟨⟩) ⟨⟩):=by
 unfold pC
 congr;funext r Γ1;congr;funext b Γ2
 refine propext ⟨fun ⟨xs,k,j,h1,h2,h3,q⟩=>?_,fun h=>?_⟩
 ·rw[h1,h2];show mN (ixN xs.length k) _ ⟨⟩;rw[h3];exact q
 ·cases e:bS Γ2 i with
  | none=>rw[e] at h;exact h.elim
  | some xs=>
   rw[e] at h
   replace h:mI (b.at Γ2) (fun k=>mN (ixN xs.length k) (fun j=>D.nx (putD Γ2 i (.lst (xs.set j r.d)))) ⟨⟩) ⟨⟩:=h
   cases e2:b.at Γ2 with
   | none=>rw[e2] at h;exact h.elim
   | some d=>
    rw[e2] at h
    cases d with
    | int k=>
     replace h:mN (ixN xs.length k) (fun j=>D.nx (putD Γ2 i (.lst (xs.set j r.d)))) ⟨⟩:=h
     cases e3:ixN xs.length k with
     | none=>rw[e3] at h;exact h.elim
     | some j=>rw[e3] at h;exact⟨xs,k,j,rfl,rfl,e3,h⟩
    | _=>exact h.elim
end
end L3
namespace L3
open PySem L2
section
variable {K:PySem.W.Frag} {B:Bs} {F:Hp} {σ:L2.St} {H:Hp} {Γ:G}
theorem nc {α:Type} {l:List α} {a b:α} {i:Nat} (h:(l++[a])[i]?=some b):l[i]?=some b∨(i=l.length∧b=a):=by
 rcases Nat.lt_or_ge i l.length with q | q
 ·rw[List.getElem?_append_left q] at h;exact .inl h
 ·have q2:i=l.length:=by
   have:=(List.getElem?_eq_some_iff.mp h).1
   rw[List.length_append,List.length_singleton] at this
   omega
  subst q2
  rw[List.getElem?_append_right (Nat.le_refl _),Nat.sub_self] at h
  exact .inr ⟨rfl,(Option.some.inj h).symm⟩
theorem c_ {α:Type} {l:List α} {a b:α} {i:Nat} (h:l[i]?=some b):(l++[a])[i]?=some b:=by
 rw[List.getElem?_append_left (List.getElem?_eq_some_iff.mp h).1];exact h
theorem fE {α:Type} {l:List α} {a:α}:(l++[a])[l.length]?=some a:=by
 rw[List.getElem?_append_right (Nat.le_refl _),Nat.sub_self];rfl
theorem En.push (e:En K B F σ H Γ) {x:Addr} {d:D} (rv:e9 K B F σ H Γ (.ref x) (.fr d)):En K B F (σ++[some (V.ref x)]) H (Γ++[some (Sl.ow d)]):=by
 obtain⟨p,e1,hF,ho,hB,hn⟩:=rv
 cases e1
 have hl:=e.len
 have hG:∀ {i:Nat} {s:Sl},(Γ++[some (Sl.ow d)])[i]?=some (some s)→Γ[i]?=some (some s)∨(i=Γ.length∧s=.ow d):=fun h=>by
  rcases nc h with q | ⟨q,q2⟩
  ·exact .inl q
  ·cases q2;exact .inr ⟨q,rfl⟩
 have hS:∀ {i:Nat} {s:Option Sl},Γ[i]?=some s→(σ++[some (V.ref x)])[i]?=σ[i]?:=fun h=>by
  have lt:=(List.getElem?_eq_some_iff.mp h).1
  rw[List.getElem?_append_left (by omega)]
 have hat:(σ++[some (V.ref x)])[Γ.length]?=some (some (V.ref x)):=by rw[← hl];exact fE
 have hH:∀ {i:Nat} {c:D},Hld (Γ++[some (Sl.ow d)]) i c→Hld Γ i c∨(i=Γ.length∧c=d):=fun h=>by
  rcases h with h | h
  ·rcases hG h with q | ⟨q,q2⟩
   ·exact .inl (.inl q)
   ·cases q2;exact .inr ⟨q,rfl⟩
  ·rcases hG h with q | ⟨q,q2⟩
   ·exact .inl (.inr q)
   ·cases q2
 have hHS:∀ {i:Nat} {c:D},Hld Γ i c→(σ++[some (V.ref x)])[i]?=σ[i]?:=fun h=>by
  rcases h with h | h <;> exact hS h
 refine⟨e.sub,by simp [hl],?_,?_,?_,?_,?_,?_,e.keep,e.new,e.rest,e.dom⟩
 ·intro i c h
  rcases hG h with q | ⟨_,q⟩
  ·rw[hS q];exact e.fz i c q
  ·cases q
 ·intro i c h
  rcases hH h with q | ⟨rfl,rfl⟩
  ·rw[hHS q];exact e.hl i c q
  ·exact⟨x,hat,hF,ho⟩
 ·intro i c q h a
  rcases hG h with z | ⟨rfl,z⟩
  ·rw[hS z] at a;exact e.ow i c q z a
  ·rw[hat] at a;cases a;exact hB
 ·intro i c q h a
  rcases hG h with z | ⟨_,z⟩
  ·rw[hS z] at a;exact e.ln i c q z a
  ·cases z
 ·intro i j c c' q h h' a a'
  rcases hH h with z | ⟨rfl,rfl⟩
  ·rw[hHS z] at a
   rcases hH h' with z' | ⟨rfl,rfl⟩
   ·rw[hHS z'] at a';exact e.dis i j c c' q z z' a a'
   ·rw[hat] at a';cases a';exact absurd a (hn i c z)
  ·rw[hat] at a;cases a
   rcases hH h' with z' | ⟨rfl,rfl⟩
   ·rw[hHS z'] at a';exact absurd a' (hn j c' z')
   ·rfl
 ·intro i q h
  obtain⟨a,c,b⟩:=e.par i q h
  exact⟨by rw[hS b];exact a,c,c_ b⟩
theorem En.pop {x:Addr} {d:D} (e:En K B F (σ++[some (V.ref x)]) H (Γ++[some (Sl.ow d)])):En K B F σ H Γ∧e9 K B F σ H Γ (.ref x) (.fr d):=by
 have hl:σ.length=Γ.length:=by have:=e.len;simpa using this
 have hat:(σ++[some (V.ref x)])[Γ.length]?=some (some (V.ref x)):=by rw[← hl];exact fE
 have hS:∀ {i:Nat} {s:Option Sl},Γ[i]?=some s→(σ++[some (V.ref x)])[i]?=σ[i]?:=fun h=>by
  have lt:=(List.getElem?_eq_some_iff.mp h).1
  rw[List.getElem?_append_left (by omega)]
 have hL:Hld (Γ++[some (Sl.ow d)]) Γ.length d:=.inl fE
 have up:∀ {i:Nat} {c:D},Hld Γ i c→Hld (Γ++[some (Sl.ow d)]) i c:=fun h=>h.imp c_ c_
 have hHS:∀ {i:Nat} {c:D},Hld Γ i c→(σ++[some (V.ref x)])[i]?=σ[i]?:=fun h=>by
  rcases h with h | h <;> exact hS h
 obtain⟨p,a,b,c⟩:=e.hl _ _ hL
 rw[hat] at a;cases a
 refine⟨⟨e.sub,hl,?_,?_,?_,?_,?_,?_,e.keep,e.new,e.rest,e.dom⟩,x,rfl,b,c,e.ow _ _ _ fE hat,?_⟩
 ·intro i c h
  have:=e.fz i c (c_ h)
  rwa [hS h] at this
 ·intro i c h
  have:=e.hl i c (up h)
  rwa [hHS h] at this
 ·intro i c q h a
  exact e.ow i c q (c_ h) (by rw[hS h];exact a)
 ·intro i c q h a
  exact e.ln i c q (c_ h) (by rw[hS h];exact a)
 ·intro i j c c' q h h' a a'
  exact e.dis i j c c' q (up h) (up h') (by rw[hHS h];exact a) (by rw[hHS h'];exact a')
 ·intro i q h
  obtain⟨a,c,b'⟩:=e.par i q h
  rcases nc b' with z | ⟨_,z⟩
  ·exact⟨by rw[← hS z];exact a,c,z⟩
  ·cases z
 ·intro i c h q
  have lt:i < Γ.length:=by rcases h with h | h <;> exact(List.getElem?_eq_some_iff.mp h).1
  have:=e.dis i _ c d x (up h) hL (by rw[hHS h];exact q) hat
  omega
end
end L3
namespace L3
open PySem L2
section
variable {K:PySem.W.Frag} {B:Bs} {F:Hp} {σ:L2.St} {H:Hp} {Γ:G}
theorem En.CB (e:En K B F σ H Γ) {i:Nat} {d0 d1:D} (hh:Hld Γ i d0) {p:Addr} (hp:σ[i]?=some (some (V.ref p))) {o1:HO} (r:Own K F (upd H p o1) p d1):En K B F σ (upd H p o1) (putD Γ i d1):=by
 obtain⟨p0,a0,b0,c0⟩:=e.hl i _ hh
 rw[hp] at a0;cases a0
 obtain⟨o,ho⟩:=c0.some
 have hput:(Γ[i]?=some (some (Sl.ow d0))∧putD Γ i d1=Γ.set i (some (.ow d1)))∨(Γ[i]?=some (some (Sl.ln d0))∧putD Γ i d1=Γ.set i (some (.ln d1))):=by
  rcases hh with q | q
  ·exact .inl ⟨q,by unfold putD;rw[q]⟩
  ·exact .inr ⟨q,by unfold putD;rw[q]⟩
 have il:i < Γ.length:=by rcases hput with ⟨q,_⟩ | ⟨q,_⟩ <;> exact(List.getElem?_eq_some_iff.mp q).1
 have other:∀ {j:Nat},j≠i→(putD Γ i d1)[j]?=Γ[j]?:=fun z=>by
  rcases hput with ⟨_,q⟩ | ⟨_,q⟩ <;> rw[q,bL (Ne.symm z)]
 have same:∀ {s:Sl},(putD Γ i d1)[i]?=some (some s)→(s=.ow d1∧Γ[i]?=some (some (Sl.ow d0)))∨(s=.ln d1∧Γ[i]?=some (some (Sl.ln d0))):=fun {s} q=>by
  rcases hput with ⟨a,b⟩ | ⟨a,b⟩
  ·rw[b,aB il] at q;cases q;exact .inl ⟨rfl,a⟩
  ·rw[b,aB il] at q;cases q;exact .inr ⟨rfl,a⟩
 have hld:∀ {j x},Hld (putD Γ i d1) j x→(j=i∧x=d1)∨(j≠i∧Hld Γ j x):=fun {j x} q=>by
  by_cases z:j=i
  ·subst z
   left
   rcases q with q | q <;> rcases same q with ⟨h,_⟩ | ⟨h,_⟩ <;> cases h <;> exact⟨rfl,rfl⟩
  ·right;exact⟨z,by unfold Hld at q ⊢;rw[other z] at q;exact q⟩
 have hld':∀ {j x},Hld (putD Γ i d1) j x→∃ y,Hld Γ j y:=fun q=>by
  rcases hld q with ⟨rfl,_⟩ | ⟨_,q⟩
  ·exact⟨_,hh⟩
  ·exact⟨_,q⟩
 refine⟨?_,?_,?_,?_,?_,?_,?_,?_,e.keep,e.new,?_,?_⟩
 ·intro b u q
  have z:b≠p:=fun z=>by subst z;rw[b0] at q;cases q
  rw[ag z];exact e.sub b u q
 ·rcases hput with ⟨_,q⟩ | ⟨_,q⟩ <;> rw[q,List.length_set] <;> exact e.len
 ·intro j d q
  by_cases z:j=i
  ·subst z;rcases same q with ⟨h,_⟩ | ⟨h,_⟩ <;> cases h
  ·rw[other z] at q;exact e.fz j d q
 ·intro j d q
  rcases hld q with ⟨rfl,rfl⟩ | ⟨z,q⟩
  ·exact⟨p,hp,b0,r⟩
  ·obtain⟨p',a,b,c⟩:=e.hl j d q
   have ne:p'≠p:=fun y=>z (e.dis j i _ _ p q hh (y ▸ a) hp)
   exact⟨p',a,b,c.mono (aC.refl F) (ag ne)⟩
 ·intro j d p' q a
  by_cases z:j=i
  ·subst z
   rcases same q with ⟨h,g⟩ | ⟨h,g⟩
   ·exact e.ow j _ p' g a
   ·cases h
  ·rw[other z] at q;exact e.ow j d p' q a
 ·intro j d p' q a
  by_cases z:j=i
  ·subst z
   rcases same q with ⟨h,g⟩ | ⟨h,g⟩
   ·cases h
   ·exact e.ln j _ p' g a
  ·rw[other z] at q;exact e.ln j d p' q a
 ·intro j k d d' p' q1 q2
  obtain⟨y1,h1⟩:=hld' q1
  obtain⟨y2,h2⟩:=hld' q2
  exact e.dis j k y1 y2 p' h1 h2
 ·intro j p' q
  obtain⟨a,d,b⟩:=e.par j p' q
  refine⟨a,?_⟩
  by_cases z:j=i
  ·subst z
   rcases hput with ⟨c,_⟩ | ⟨_,c⟩
   ·rw[b] at c;cases c
   ·exact⟨_,by rw[c,aB il]⟩
  ·exact⟨d,by rw[other z];exact b⟩
 ·intro b u q n
  have z:b≠p:=fun z=>by
   subst z
   rcases hh with g | g
   ·rw[e.ow i _ _ g hp] at q;cases q
   ·exact n i (e.ln i _ _ g hp)
  rw[ag z];exact e.rest b u q n
 ·intro b q
  by_cases z:b=p
  ·subst z;rw[ax] at q;cases q
  ·rw[ag z] at q;exact e.dom b q
def j7 (Γ:G) (i:Nat):Option (Addr×List Str×List D):=match Γ[i]? with
 | some (some (.ow (.ins C ns xs)))=>some (C,ns,xs)
 | some (some (.ln (.ins C ns xs)))=>some (C,ns,xs)
 | _=>none
theorem kT {i:Nat} {C:Addr} {ns:List Str} {xs:List D} (h:j7 Γ i=some (C,ns,xs)):Hld Γ i (.ins C ns xs):=by
 unfold j7 at h
 split at h
 ·cases h;rename_i q;exact .inl q
 ·cases h;rename_i q;exact .inr q
 ·cases h
theorem mQ {f:Str} {v:V}:∀ {fs:List (Str×V)},f∉fs.map (·.1)→du f v fs=fs++[(f,v)]
 | [],_=>rfl
 | (g,x)::r,h=>by
  simp only[List.map_cons,List.mem_cons,not_or] at h
  show (if g=f then _ else _)=_
  rw[if_neg (Ne.symm h.1),mQ h.2];rfl
theorem au.snoc {xs:List D} {vs:List V} (r:au K F xs vs) {d:D} {v:V} (q:Rep K F d v):au K F (xs++[d]) (vs++[v]):=r.append ⟨v,[],rfl,q,rfl⟩
def oI (o:Option (Addr×List Str×List D)) (k:Addr→List Str→List D→Prop):Prop:=match o with
 | some (C,ns,xs)=>k C ns xs
 | none=>False
def rB (C0:Addr) (i:Nat) (f:Str) (e3:TE3) (D:E3) (Γ:G):Prop:=e3 Γ fun r Γ1=>oI (j7 Γ1 i) fun C ns xs=>C=C0∧(f∉ns∧ns.length < 1000)∧D.nx (putD Γ1 i (.ins C (ns++[f]) (xs++[r.d])))
variable {X:Cx} {e:Expr} {te:TE} {e3:TE3} {pos:Pos}
theorem rK {C0:Addr} {i:Nat} {f:Str} (hC:Cls K C0) (hn:cf K C0 f) (h:Ref K te e3):wo K (xN K (eY i) te f) (rB C0 i f e3):=by
 intro B F σ H Γ D D3 en k q
 refine h B F σ H Γ _ _ en q fun v H1 ⟨F1,Γ1,r,s1,e1,rv,q1⟩=>?_
 obtain⟨F2,s2,e2,rp⟩:=e1.frozen rv
 have q2:oI (j7 Γ1 i) fun C ns xs=>C=C0∧(f∉ns∧ns.length < 1000)∧D3.nx (putD Γ1 i (.ins C (ns++[f]) (xs++[r.d]))):=q1
 cases w:j7 Γ1 i with
 | none=>rw[w] at q2;exact q2.elim
 | some t=>
  obtain⟨C,ns,xs⟩:=t
  rw[w] at q2
  obtain⟨rfl,⟨hf,hl⟩,q2⟩:=q2
  obtain⟨p,a,b,dx,gs,c1,c2,c3⟩:=e2.hl i _ (kT w)
  refine⟨_,a,p,C,dx,gs,rfl,c1,hC,hn,?_,?_⟩
  ·have:=congrArg List.length c2;rw[List.length_map] at this;omega
  ·have hf':f∉gs.map (·.1):=by rw[c2];exact hf
   rw[mQ hf']
   have ow:Own K F2 (upd H1 p (.ins C dx (gs++[(f,v)]))) p (.ins C (ns++[f]) (xs++[r.d])):=⟨dx,gs++[(f,v)],ax,by rw[List.map_append,c2];rfl,by rw[List.map_append];exact c3.snoc rp⟩
   exact k.nx F2 σ _ _ (s1.trans s2) (e2.CB (kT w) a ow) q2
theorem uC {C0:Addr} (i:Nat) {x f:Str} {px p2:Pos} (hK:X.K=K) (hC:Cls K C0) (hn:cf K C0 f) (hx:P3B K X (.Name x px) (eY i) (bor i)) (he:P3 K X e te e3) (hs:swapsWith e (some (.Attribute (.Name x px) f p2)) pos.line X.env=pure false:=by rfl) :
  P3S K X (.Assign [.Attribute (.Name x px) f p2] e pos) (xN K (eY i) te f) (rB C0 i f e3):=⟨by subst hK;exact x5 hx.pe he.pe hs,rK hC hn he.rf⟩
end
end L3
namespace L3
open PySem L2
section
variable {K:PySem.W.Frag} {B:Bs} {F:Hp} {σ:L2.St} {H:Hp} {Γ:G} {X:Cx}
theorem bM.push {x:V}:∀ {bs:List Bo} {vs:List V},bM K F σ bs vs→bM K F (σ++[some x]) bs vs
 | [],_,h=>h
 | .d d::bs,_,⟨v,ws,h1,h2,h3⟩=>⟨v,ws,h1,h2,bM.push h3⟩
 | .v i::bs,_,⟨v,ws,h1,h2,h3⟩=>⟨v,ws,h1,c_ h2,bM.push h3⟩
theorem bM.ds:∀ {ds:List D} {vs:List V},au K F ds vs→bM K F σ (ds.map Bo.d) vs
 | [],_,h=>h
 | _::_,_,⟨v,ws,h1,h2,h3⟩=>⟨v,ws,h1,h2,bM.ds h3⟩
theorem m9:∀ ds:List D,cD (ds.map Bo.d)=[]
 | []=>rfl
 | _::ds=>m9 ds
theorem we (ds:List D) (Γ:G):cT Γ ((ds.map Bo.d).map some)=ds.map fun d=>some (Sl.fz d):=by
 unfold cT;rw[List.map_map,List.map_map];rfl
theorem pQ {cs:G} {j:Nat}:∀ ds:List D,newD (((ds.map Bo.d).map some).map bD) cs j=none
 | []=>by cases cs <;> rfl
 | _::ds=>by
  cases cs with
  | nil=>rfl
  | cons c cs=>exact pQ (cs:=cs) ds
def Be (Γa:G) (k:D→Prop):Prop:=match Γa with
 | some (.ln d)::_=>k d
 | _=>False
def D5:D→Bool
 | .non=>true
 | _=>false
def sM (C:Addr) (n:Nat) (S:S3) (t3:TA3) (Γ:G) (Q:RV→G→Prop):Prop:=t3 Γ fun ds Γ1=>ds.length + 1=n∧
 S (some (.ln (.ins C [] []))::ds.map fun d=>some (.fz d)) fun r Γa=>r=.fz .non∧Be Γa fun d=>Q (.fr d) Γ1
theorem rL {C:Addr} {n:Nat} {S:S3} {E:XK} {t:TA} {t3:TA3} (h:zE K t t3):Ref K (pv C (sp3 K n S) [] E t) (sM C n S t3):=by
 intro B F σ H Γ Q QQ e q k
 refine h B F σ H Γ _ _ e q fun vs H1 ⟨F1,Γ1,ds,s1,e1,r1,hn,q1⟩=>?_
 intro y dy hy hdy ne
 rw[List.append_nil]
 have a1:=e1.alloc hdy (.own y)
 have hy':(upd H1 dy (.own y)) y=none:=by rw[ag (Ne.symm ne)];exact hy
 have e2:En K B F1 σ (upd (upd H1 dy (.own y)) y (.ins C dy [])) Γ1:=a1.alloc hy' _
 have rv:e9 K B F1 σ (upd (upd H1 dy (.own y)) y (.ins C dy [])) Γ1 (.ref y) (.fr (.ins C [] [])):=⟨y,rfl,a1.nof hy',⟨dy,[],ax,rfl,rfl⟩,e1.dom _ hy,a1.oB hy'⟩
 have ep:=e2.push rv
 have hl:σ.length=Γ1.length:=e1.len
 have rb:bM K F1 (σ++[some (V.ref y)]) (Bo.v Γ1.length::ds.map Bo.d) (.ref y::vs):=⟨_,_,rfl,by rw[← hl];exact fE,(bM.ds r1).push⟩
 have nd:(cD (Bo.v Γ1.length::ds.map Bo.d)).Nodup:=by
  show (Γ1.length::cD (ds.map Bo.d)).Nodup
  rw[m9];simp
 have eG:cT (Γ1++[some (Sl.ow (.ins C [] []))]) ((Bo.v Γ1.length::ds.map Bo.d).map some)=some (.ln (.ins C [] []))::ds.map fun d=>some (.fz d):=by
  rw[List.map_cons,← we ds (Γ1++[some (Sl.ow (.ins C [] []))])]
  show (some (Bo.v Γ1.length)).bind (kh _)::_=_
  congr 1
  show eX (Γ1++[some (Sl.ow (.ins C [] []))])[Γ1.length]?=_
  rw[fE];rfl
 have len:(V.ref y::vs).length=n:=by rw[← hn,List.length_cons,r1.length]
 refine⟨len,F1,_,_,_,ep.args rb nd,jM,by rw[eG];exact q1,fun r Γa q2 v H' F' e3 rv'=>?_⟩
 obtain⟨rfl,q2⟩:=q2
 obtain⟨sm,eb,_⟩:=ep.called e3 rv'
 have ev:v=.non:=rv'
 cases Γa with
 | nil=>exact q2.elim
 | cons s Γr=>
  cases s with
  | none=>exact q2.elim
  | some s=>
   cases s with
   | fz d=>exact q2.elim
   | ow d=>exact q2.elim
   | ln d=>
    have q2:Q (.fr d) Γ1:=q2
    have eq:bB (((Bo.v Γ1.length::ds.map Bo.d).map some).map bD) (Γ1++[some (Sl.ow (.ins C [] []))]) (some (.ln d)::Γr)=Γ1++[some (Sl.ow d)]:=by
     refine List.ext_getElem? fun j=>?_
     rw[cH]
     show Option.map (iF (if Γ1.length=j then some d else newD (((ds.map Bo.d).map some).map bD) Γr j)) _=_
     by_cases hj:Γ1.length=j
     ·subst hj
      rw[if_pos rfl,fE,fE];rfl
     ·rw[if_neg hj,pQ]
      have:(Γ1++[some (Sl.ow d)])[j]?=(Γ1++[some (Sl.ow (.ins C [] []))])[j]?:=by
       rcases Nat.lt_or_ge j Γ1.length with z | z
       ·rw[List.getElem?_append_left z,List.getElem?_append_left z]
       ·rw[List.getElem?_eq_none (by simp;omega),List.getElem?_eq_none (by simp;omega)]
      rw[this]
      cases (Γ1++[some (Sl.ow (.ins C [] []))])[j]? with
      | none=>rfl
      | some s=>cases s with
       | none=>rfl
       | some s=>cases s <;> rfl
    rw[eq] at eb
    obtain⟨e5,rv5⟩:=eb.pop
    exact⟨ev,k _ _ ⟨F',Γ1,.fr d,s1.trans sm,e5,rv5,q2⟩⟩
end
end L3
namespace L3
open PySem L2
section
variable {K:PySem.W.Frag} {B:Bs} {F:Hp} {σ:L2.St} {H:Hp} {Γ:G} {X:Cx} {C f:Addr} {fd:FuncData} {ps:List Str} {x m:Str} {k n:Nat} {S:S3} {p pos:Pos} {e:Expr} {es:List Expr} {t:TA} {t3:TA3} {te:TE} {e3:TE3}
theorem pP (M:Mk X.K C f) (F:aX X.prog X.w X.K X.mg X.base CX0 k f fd ps (sp3 K n S)) (hr:bP (k + 1) X.A) (hg:Gl X x) (hm:X.mg x=some (.ref C)) (hb:Binds X.K fd ps [])
  (ha:P3A K X (e::es) t t3) (hdb:(x == ("__debug__":Str))=false:=by decide) (he:starEach (e::es) X.env=(false,eval e X.env)::starEach es X.env:=by rfl) (hpl:(backTo pos (starEach es X.env)).any (·.1)=false:=by rfl) :
  P3 K X (.Call (.Name x p) (e::es) [] pos) (pv C (sp3 K n S) [] E0 t) (sM C n S t3):=⟨uZ M F hr hg hm hb .nil kM ha.pe hdb he hpl,rL ha.rf⟩
def frR (r:RV) (k:D→Prop):Prop:=match r with
 | .fr d=>k d
 | _=>False
def zt (i:Nat) (S:S3) (e3:TE3) (Γ:G) (Q:RV→G→Prop):Prop:=(∃ d,Gat Γ i=some d)∧e3 Γ fun r Γ1=>frR r fun d=>S [kh Γ1 (.v i),some (.ln d)] fun r' Γa=>Q r' (bB [some i,none] Γ1 Γa)
end
end L3
namespace L3
open PySem L2
section
variable {K:PySem.W.Frag} {B:Bs} {F:Hp} {σ:L2.St} {H:Hp} {Γ:G} {X:Cx}
def signs (z:Str):List D:=z.cps.toList.map fun c=>D.str (sgn c)
def oS (d:D) (k:Str→Prop):Prop:=match d with
 | .str z=>k z
 | _=>False
theorem wC {d:D} {k:Str→Prop} (h:oS d k):∃ z,d=.str z∧k z:=by
 cases d <;> first | exact h.elim | exact⟨_,rfl,h⟩
def asc (z:Str):Bool:=z.cps.all (· < 128)
def iS3 (a3:TE3) (Γ:G) (Q:List D→G→Prop):Prop:=a3 Γ fun r Γ1=>oS r.d fun z=>asc z=true∧Q (signs z) Γ1
theorem iQ (z:Str):(signs z).length=z.cps.size:=by simp [signs]
theorem z7 {z:Str}:ItR K F (Its z) (signs z):=by
 refine⟨fun i H' _ lt=>by rw[iQ] at lt;exact lt,fun i H' _ e=>by rw[iQ] at e;exact Nat.le_of_eq e.symm,fun i H' x H'' d _ hd y=>?_⟩
 obtain⟨e1,c,hc,rfl⟩:=y
 refine .inl ⟨e1,?_⟩
 unfold signs at hd
 rw[List.getElem?_map,Array.getElem?_toList,hc] at hd
 cases hd;rfl
theorem y0 {tg l:Expr} {tl:TE} {l3:TE3} (h:P3 K X l tl l3):P3I K X tg l (AZ tl) (iS3 l3):=⟨x9 h.pe,fun B F σ H Γ Q R e q k=>
 h.rf B F σ H Γ _ _ e q fun v H' ⟨F',Γ',r,s,e',rv,q'⟩=>by
  obtain⟨z,hz,ha,q'⟩:=wC q'
  obtain⟨F2,s2,e2,r2⟩:=e'.frozen rv
  rw[hz] at r2
  exact⟨z,r2,ha,k _ H' F2 Γ' _ (s.trans s2) e2 z7 q'⟩⟩
def Ai (lo c:Int) (n:Nat):List D:=(List.range n).map fun (k:Nat)=>D.int (lo + (k:Int) * c)
def CI (t3:TA3) (Γ:G) (Q:List D→G→Prop):Prop:=t3 Γ fun ds Γ1=>∃ i j:Int,ds=[.int i,.int j,.int (-1)]∧(-1000000≤i∧i≤1000000∧-1000000≤j∧j≤1000000)∧Q (Ai i (-1) (i - j).toNat) Γ1
def CH (t3:TA3) (Γ:G) (Q:List D→G→Prop):Prop:=t3 Γ fun ds Γ1=>∃ j:Int,ds=[.int j]∧(0≤j∧j < 2 ^ 62)∧Q (Ai (j - 1) (-1) j.toNat) Γ1
def CG (t3:TA3) (Γ:G) (Q:List D→G→Prop):Prop:=t3 Γ fun ds Γ1=>∃ z ys,ds=[.str z,.tup ys]∧asc z=true∧z.cps.size≤ys.length∧Q (xm (signs z) ys) Γ1
def tgP (i j k:Nat) (d:D) (Γ:G) (Q:G→Prop):Prop:=∃ x y z,d=.tup [x,.tup [y,z]]∧aZ Γ i∧aZ (Γ.set i (some (.fz x))) j∧aZ ((Γ.set i (some (.fz x))).set j (some (.fz y))) k∧Q (((Γ.set i (some (.fz x))).set j (some (.fz y))).set k (some (.fz z)))
end
end L3
namespace L3
open PySem L2
section
variable {K:PySem.W.Frag} {B:Bs} {F:Hp} {σ:L2.St} {H:Hp} {Γ:G} {X:Cx} {a b o e f:Expr} {ta tb te tf to:TE} {a3 b3:TB3} {e3 f3:TE3} {pos apos cpos:Pos}
def pR (x y:D) (Γ:G) (Q:RV→G→Prop):Prop:=match x,y with
 | .str z,.int n=>(n=0∨n=1)∧z.length≤sizeLine∧Q (.fz (.str (if n=0 then Str.empty else z))) Γ
 | _,_=>False
theorem vt:gH K rR pR:=by
 intro B F σ H Γ x y dx dy Q QQ e rx ry q k
 unfold pR at q
 split at q
 ·obtain⟨h1,h2,q⟩:=q
  cases rx;cases ry
  exact⟨_,_,rfl,rfl,h1,h2,k _ _ (gL e q)⟩
 ·exact q.elim
theorem vd (ha:P3B K X a ta a3) (hb:P3B K X b tb b3):P3 K X (.BinOp a .Mult b pos) (tOp rR ta tb) (iO pR a3 b3):=⟨jd vj ha.pe hb.pe,dr vt ha.rf hb.rf⟩
def BG (x y:D) (Γ:G) (Q:RV→G→Prop):Prop:=match x,y with
 | .tup xs,.tup ys=>(xs≠[]∧ys≠[]∧xs.length + ys.length≤sizeLine)∧Q (.fz (.tup (xs++ys))) Γ
 | _,_=>False
def oSo (d:Option D) (k:Str→Prop):Prop:=match d with
 | some (.str z)=>k z
 | _=>False
def Ck (a3:TB3) (l3 h3:TO3) (Γ:G) (Q:RV→G→Prop):Prop:=a3 Γ fun x Γ1=>l3 Γ1 fun lo Γ2=>h3 Γ2 fun hi Γ3=>oSo (x.at Γ3) fun z=>z.length≤sizeLine∧Q (.fz (.str (Txt.slice z lo hi))) Γ3
def Br (z y:Str):Nat:=(Builtin.Str.occurrences z y 0 z.length (z.length + 1)).length
def CU (o3:TE3) (e3:TE3) (Γ:G) (Q:RV→G→Prop):Prop:=o3 Γ fun x Γ1=>oS x.d fun z=>e3 Γ1 fun r Γ2=>oS r.d fun y=>Q (.fz (.int (Br z y))) Γ2
def dS:D→Bool
 | .str _=>true
 | _=>false
theorem xg (T:TyS X.K):B3 K X (.builtin "isinstance") (fun xs H Q=>∃ x,xs=[x,.ty "str"]∧Kn H x∧Q (.bl (isS x)) H) (is3 "str" dS):=v3 (g:=fun _ v=>isS v) (tR T) fun s h hk=>by
 rename_i F H d v
 cases d <;> first
  | (cases h;rfl)
  | (cases hk;done)
  | (obtain⟨p,vs,rfl,_⟩:=h;rfl)
  | (obtain⟨p,rfl,_⟩:=h;rfl)
  | (obtain⟨p,dx,gs,rfl,_⟩:=h;rfl)
def Ct (i:Nat) (Γ:G) (Q:RV→G→Prop):Prop:=mL (bS Γ i) (fun xs=>m1 (xs[xs.length - 1]?) (fun d=>Q (.fz d) (putD Γ i (.lst xs.dropLast))) ⟨⟩) ⟨⟩
def Ay (i:Nat) (Γ:G) (Q:RV→G→Prop):Prop:=mL (bS Γ i) (fun xs=>m1 (xs[0]?) (fun d=>Q (.fz d) (putD Γ i (.lst (xs.eraseIdx 0)))) ⟨⟩) ⟨⟩
def CF (i:Nat) (k3 e3:TE3) (Γ:G) (Q:RV→G→Prop):Prop:=(∃ xs,bS Γ i=some xs)∧k3 Γ fun rk Γ1=>e3 Γ1 fun r Γ2=>mI (some rk.d) (fun k=>mL (bS Γ2 i) (fun xs=>(0≤k∧k≤(xs.length:Int)∧xs.length < sizeLine)∧Q (.fz .non) (putD Γ2 i (.lst (xs.take k.toNat++r.d::xs.drop k.toNat)))) ⟨⟩) ⟨⟩
end
end L3
namespace L3
open PySem L2
mutual
def dt:D→PyData
 | .non=>.none
 | .bl b=>.bool b
 | .int i=>.int i
 | .str x=>.str x
 | .lst xs=>.list (dtL xs)
 | .tup xs=>.tuple (dtL xs)
 | .dct=>.dict []
 | _=>.none
def dtL:List D→List PyData
 | []=>[]
 | x::xs=>dt x::dtL xs
end
inductive Sh:Nat→Nat→D→Prop where
 | non:Sh 100 1 .non
 | bl (b:Bool):Sh 100 1 (.bl b)
 | int {i:Int} (h:i.natAbs < 10 ^ 60):Sh 100 1 (.int i)
 | str {x:Str} {n:Nat} (h:(PyData.shown (.str x)).length≤n):Sh n 1 (.str x)
 | dct:Sh 100 1 .dct
 | lst {n k l:Nat} {xs:List D} (h:∀ x∈xs,Sh n k x) (hl:xs.length≤l):Sh (l * (n + 2) + 3) (k + 1) (.lst xs)
 | tup {n k l:Nat} {xs:List D} (h:∀ x∈xs,Sh n k x) (hl:xs.length≤l):Sh (l * (n + 2) + 3) (k + 1) (.tup xs)
 | up {n k n' k':Nat} {d:D} (h:Sh n k d) (h1:n≤n') (h2:k≤k'):Sh n' k' d
structure ShD (n k:Nat) (d:D):Prop where
 sh:(dt d).showable=true
 dp:(dt d).depth≤k
 ln:(dt d).shown.length≤n
 dt:∀ {K:PySem.W.Frag} {F H:Hp} {v:V},aC F H→Rep K F d v→Dt K H v (dt d)
theorem vI {i:Int} (h:i.natAbs < 10 ^ 60):(PyData.shown (.int i)).length≤100:=by
 have e:=int_text_length_le10 (k:=60) (by decide) h
 show (Str.ofString (toString i)).length≤100
 rw[ofString_length]
 omega
theorem sZ {i:Int} (h:i.natAbs < 10 ^ 60):PyData.showable (.int i)=true:=by
 show decide (i.natAbs.log2 < 1920)=true
 rw[decide_eq_true_eq]
 by_cases h0:i.natAbs=0
 ·rw[h0];decide
 ·rw[Nat.log2_lt h0]
  exact Nat.lt_of_lt_of_le (show i.natAbs < 2 ^ 200 from Nat.lt_trans h (by decide)) (Nat.pow_le_pow_right (by decide) (by decide))
theorem shL {n k:Nat}:∀ {xs:List D},(∀ x∈xs,ShD n k x)→PyData.showableAll (dtL xs)=true∧PyData.depthAll (dtL xs)≤k∧((PyData.shownAll (dtL xs)).map (·.length)).sum≤xs.length * n∧(PyData.shownAll (dtL xs)).length=xs.length∧
  ∀ {K:PySem.W.Frag} {F H:Hp} {vs:List V},aC F H→au K F xs vs→bI K H vs (dtL xs)
 | [],_=>⟨rfl,by simp [dtL,PyData.depthAll],by simp [dtL,PyData.shownAll],rfl,fun _ r=>by cases r;exact .nil⟩
 | x::xs,h=>by
  obtain⟨h1,h3,h4,h5,h6⟩:=shL (xs:=xs) fun y hy=>h y (List.mem_cons_of_mem _ hy)
  have e:=h x List.mem_cons_self
  have e4:=e.ln
  have e3:=e.dp
  refine⟨?_,?_,?_,?_,fun s r=>?_⟩
  ·simp only[dtL,PyData.showableAll,e.sh,h1,Bool.and_self]
  ·simp only[dtL,PyData.depthAll];omega
  ·simp only[dtL,PyData.shownAll,List.map_cons,List.sum_cons,List.length_cons,Nat.add_mul,Nat.one_mul];omega
  ·simp only[dtL,PyData.shownAll,List.length_cons,h5]
  ·obtain⟨v,ws,rfl,r1,r2⟩:=r
   exact .cons (e.dt s r1) (h6 s r2)
theorem Sh.spec {n k:Nat} {d:D} (h:Sh n k d):ShD n k d:=by
 induction h with
 | non=>exact⟨rfl,by simp [dt,PyData.depth],by decide,fun _ r=>by cases r;exact .non⟩
 | bl b=>exact⟨rfl,by simp [dt,PyData.depth],by cases b <;> decide,fun _ r=>by cases r;exact .bl b⟩
 | @int i h=>exact⟨sZ h,by simp [dt,PyData.depth],vI h,fun _ r=>by cases r;exact .int i⟩
 | @str x n h=>exact⟨rfl,by simp [dt,PyData.depth],h,fun _ r=>by cases r;exact .str x⟩
 | @lst n k l xs h hl ih=>
  obtain⟨h1,h3,h4,h5,h6⟩:=shL ih
  refine⟨by simp only[dt,PyData.showable,h1],by simp only[dt,PyData.depth];omega,?_,fun s r=>?_⟩
  ·have e:=listText_len_le (PyData.shownAll (dtL xs))
   have e2:(PyData.shown (dt (.lst xs)))=listText (PyData.shownAll (dtL xs)):=by simp only[dt,PyData.shown]
   rw[e2]
   have e3:xs.length * n≤l * n:=Nat.mul_le_mul_right _ hl
   have e4:l * (n + 2)=l * n + l * 2:=Nat.mul_add ..
   omega
  ·obtain⟨p,vs,rfl,g,r⟩:=r
   exact .lst (SqL.of (s _ _ g)) (h6 s r)
 | @tup n k l xs h hl ih=>
  obtain⟨h1,h3,h4,h5,h6⟩:=shL ih
  refine⟨by simp only[dt,PyData.showable,h1],by simp only[dt,PyData.depth];omega,?_,fun s r=>?_⟩
  ·have e:=tupleText_len_le (PyData.shownAll (dtL xs))
   have e2:(PyData.shown (dt (.tup xs)))=tupleText (PyData.shownAll (dtL xs)):=by simp only[dt,PyData.shown]
   rw[e2]
   have e3:xs.length * n≤l * n:=Nat.mul_le_mul_right _ hl
   have e4:l * (n + 2)=l * n + l * 2:=Nat.mul_add ..
   omega
  ·obtain⟨p,vs,rfl,g,r⟩:=r
   exact .tup (.inl (.inl (s _ _ g))) (h6 s r)
 | dct=>exact⟨rfl,by simp [dt,PyData.depth,PyData.depthKv],by decide,fun s r=>by obtain⟨p,rfl,h⟩:=r;exact .dct (s _ _ h)⟩
 | up h h1 h2 ih=>exact⟨ih.sh,Nat.le_trans ih.dp h2,Nat.le_trans ih.ln h1,ih.dt⟩
def xK:D→Bool
 | .lst _=>true
 | .tup _=>true
 | _=>false
def shw (d:D):Str:=(dt d).shown
def rG (ds:List D) (Γ:G) (Q:RV→G→Prop):Prop:=match ds with
 | [d]=>(xK d=true∧Sh 10000000 20 d)∧Q (.fz (.str (shw d))) Γ
 | _=>False
section
variable {K:PySem.W.Frag} {B:Bs} {F:Hp} {σ:L2.St} {H:Hp} {Γ:G} {X:Cx}
theorem Sh.dtB {n k:Nat} {d:D} (h:Sh n k d) (hs:xK d=true) {v:V} (s:aC F H) (r:dj K F H d v):∃ a,v=.ref a∧Dt K H v (dt d):=by
 cases d with
 | lst xs=>
  obtain⟨p,vs,rfl,g,r⟩:=r
  refine⟨p,rfl,?_⟩
  have go:∀ {n k:Nat} {d:D},Sh n k d→∀ xs,d=.lst xs→∀ x∈xs,∃ n k,Sh n k x:=by
   intro n k d h
   induction h with
   | lst h hl ih=>intro xs e x hx;cases e;exact⟨_,_,h x hx⟩
   | up h h1 h2 ih=>exact ih
   | _=>intro xs e;cases e
  have all:∀ {ys:List D} {ws:List V},(∀ x∈ys,∃ n k,Sh n k x)→au K F ys ws→bI K H ws (dtL ys):=by
   intro ys
   induction ys with
   | nil=>intro ws _ r;cases r;exact .nil
   | cons y ys ih=>
    intro ws hh r
    obtain⟨w,ws',rfl,r1,r2⟩:=r
    obtain⟨n',k',hy⟩:=hh y List.mem_cons_self
    exact .cons (hy.spec.dt s r1) (ih (fun z hz=>hh z (List.mem_cons_of_mem _ hz)) r2)
  exact .lst (SqL.of g) (all (go h xs rfl) r)
 | tup xs=>
  have r':Rep K F (.tup xs) v:=r
  have q:=h.spec.dt s r'
  obtain⟨p,vs,rfl,_⟩:=r'
  exact⟨p,rfl,q⟩
 | _=>cases hs
theorem gY {k:Nat} (hK:X.K=K) (hr:bP k X.A):B3 K X (.builtin "repr") (fun xs H Q=>∃ a d,xs=[.ref a]∧Dt K H (.ref a) d∧Shw d∧Q (.str d.shown) H) rG:=⟨by subst hK;exact oX hr,by
 intro B F σ H Γ vs ds Q QQ e r q k
 unfold rG at q
 split at q
 ·obtain⟨⟨hs,hS⟩,q⟩:=q
  obtain⟨v,rfl,r1⟩:=r.one
  obtain⟨a,rfl,hd⟩:=hS.dtB hs e.sub r1
  have sp:=hS.spec
  exact⟨a,_,rfl,hd,⟨sp.sh,sp.dp,by rw[sizeLine_eq];have:=sp.ln;omega⟩,k _ _ (gL e q)⟩
 ·exact q.elim⟩
end
end L3
namespace L3
open PySem L2
section
variable {K:PySem.W.Frag} {B:Bs} {F:Hp} {σ:L2.St} {H:Hp} {Γ:G} {X:Cx} {a o e f:Expr} {ta te tf:TE} {a3:TB3} {e3 f3:TE3} {pos apos cpos:Pos}
def tF (C0:Addr) (f:Str) (x:D) (Γ:G) (Q:RV→G→Prop):Prop:=match x with
 | .ins C ns xs=>C=C0∧m1 ((ns.zip xs).lookup f) (fun d=>Q (.fz d) Γ) ⟨⟩
 | _=>False
theorem vf {f:Str} {C0:Addr} (hK:X.K=K) (ha:P3B K X a ta a3) (hC:Cls K C0) (hn:cf K C0 f) (hb:attributeBase a f X.env (eval a X.env)=eval a X.env:=by rfl) :
  P3 K X (.Attribute a f pos) (z5 K ta f) (qm (tF C0 f) a3):=⟨by subst hK;exact yf ha.pe hb,oa (r:=fun x H1 Q=>∃ a C dx fs v,x=.ref a∧H1 a=some (.ins C dx fs)∧Cls K C∧cf K C f∧fs.lookup f=some v∧Q v H1) (ta:=ta) (by
 intro B F σ H Γ x dx Q QQ e rx q k
 unfold tF at q
 split at q
 ·obtain⟨rfl,q⟩:=q
  obtain⟨d,hd,q⟩:=jf.mp q
  obtain⟨p,dx,gs,rfl,h1,h2,h3⟩:=rx
  obtain⟨v,hv,r⟩:=au.lookup h2 h3 hd
  exact⟨p,_,dx,gs,v,rfl,h1,hC,hn,hv,k _ _ (dk e r q)⟩
 ·exact q.elim) ha.rf⟩
def kt (zs:List Str):D:=.ktup (zs.map .str)
structure Eh (K:PySem.W.Frag) (mg:Str→Option Value) (x:Str) (p:Addr) (zs:List Str):Prop where
 mg:mg x=some (.ref p)
 sq:∀ F:Hp,SqT K F p (zs.map V.str)
theorem au.strs:∀ (zs:List Str),au K F (zs.map D.str) (zs.map V.str)
 | []=>rfl
 | z::zs=>⟨_,_,rfl,rfl,au.strs zs⟩
def New (H H' F:Hp):Prop:=∀ b o,H b=none→H' b=some o→F b=some o
def Lit (K:PySem.W.Frag) (te:TE) (d:D):Prop:=∀ (σ:L2.St) (H:Hp) (Q:VK),(∀ v H',aC H H'→(∀ F,New H H' F→Rep K F d v)→Q v H')→te σ H Q
def Ef (K:PySem.W.Frag) (t:TA) (ds:List D):Prop:=∀ (σ:L2.St) (H:Hp) (Q:List V→Hp→Prop),(∀ vs H',aC H H'→vs.length=ds.length→(∀ F,New H H' F→au K F ds vs)→Q vs H')→t σ H Q
def Bq (i:Nat) (k1 k2:Str) (d1 d2 d0:D) (Γ:G) (Q:RV→G→Prop):Prop:=oSo (Gat Γ i) fun w=>Q (.fz (if w=k1 then d1 else if w=k2 then d2 else d0)) Γ
end
end L3
namespace L3
open PySem L2
section
variable {K:PySem.W.Frag} {B:Bs} {F:Hp} {σ:L2.St} {H:Hp} {Γ:G} {X:Cx} {e:Expr} {te:TE} {e3:TE3} {pos:Pos}
def C9 (i:Nat) (e3:TE3) (D:E3) (Γ:G):Prop:=mI (Gat Γ i) (fun m=>e3 Γ fun r Γ1=>mI (some r.d) (fun n=>aZ Γ1 i∧D.nx (Γ1.set i (some (.fz (.int (m + n)))))) ⟨⟩) ⟨⟩
end
end L3
namespace L3
open PySem L2
def oIt (o:Option (Addr×List Str×List D)) (k:Addr→List Str→List D→Prop) (_:Tag k):Prop:=oI o k
theorem sE {C:Addr} {ns:List Str} {xs:List D} {k:Addr→List Str→List D→Prop} {t:Tag k}:oIt (some (C,ns,xs)) k t=k C ns xs:=rfl
def oSt (o:D) (k:Str→Prop) (_:Tag k):Prop:=oS o k
theorem vp {z:Str} {k:Str→Prop} {t:Tag k}:oSt (.str z) k t=k z:=rfl
def yu (o:Option D) (k:Str→Prop) (_:Tag k):Prop:=oSo o k
theorem sD {z:Str} {k:Str→Prop} {t:Tag k}:yu (some (.str z)) k t=k z:=rfl
def w4 (o:G) (k:D→Prop) (_:Tag k):Prop:=Be o k
theorem vO {d:D} {Γ:G} {k:D→Prop} {t:Tag k}:w4 (some (.ln d)::Γ) k t=k d:=rfl
def Bf (o:RV) (k:D→Prop) (_:Tag k):Prop:=frR o k
theorem zh {d:D} {k:D→Prop} {t:Tag k}:Bf (.fr d) k t=k d:=rfl
section
variable {Γ:G} {Q:RV→G→Prop} {QI:List D→G→Prop} {C C0:Addr} {i n:Nat} {f:Str} {S:S3} {e3:TE3} {a3:TB3} {t3:TA3} {D1:E3} {k1 k2:Str} {d1 d2 d0:D} {l3 h3:TO3}
theorem uy:rB C0 i f e3 D1 Γ=(e3 Γ fun r Γ1=>oIt (j7 Γ1 i) (fun C ns xs=>C=C0∧(f∉ns∧ns.length < 1000)∧D1.nx (putD Γ1 i (.ins C (ns++[f]) (xs++[r.d])))) ⟨⟩):=rfl
theorem A0:iS3 e3 Γ QI=(e3 Γ fun r Γ1=>oSt r.d (fun z=>asc z=true∧QI (signs z) Γ1) ⟨⟩):=rfl
theorem xH:Ck a3 l3 h3 Γ Q=(a3 Γ fun x Γ1=>l3 Γ1 fun lo Γ2=>h3 Γ2 fun hi Γ3=>yu (x.at Γ3) (fun z=>z.length≤sizeLine∧Q (.fz (.str (Txt.slice z lo hi))) Γ3) ⟨⟩):=rfl
theorem zp {o3:TE3}:CU o3 e3 Γ Q=(o3 Γ fun x Γ1=>oSt x.d (fun z=>e3 Γ1 fun r Γ2=>oSt r.d (fun y=>Q (.fz (.int (Br z y))) Γ2) ⟨⟩) ⟨⟩):=rfl
theorem vS:Bq i k1 k2 d1 d2 d0 Γ Q=yu (Gat Γ i) (fun w=>Q (.fz (if w=k1 then d1 else if w=k2 then d2 else d0)) Γ) ⟨⟩:=rfl
end
end L3
namespace L3
open PySem L2
def bT (c:Bool) (p q:Prop) (_:Tag p) (_:Tag q):Prop:=match c with
 | true=>p
 | false=>q
theorem CZ {p q:Prop} {s:Tag p} {t:Tag q}:bT true p q s t=p:=rfl
theorem C1 {p q:Prop} {s:Tag p} {t:Tag q}:bT false p q s t=q:=rfl
section
variable {Γ:G} {Q:RV→G→Prop} {QB:Bo→G→Prop} {QT:Bool→G→Prop} {QA:List D→G→Prop} {QL:List Bo→G→Prop} {QO:Option Int→G→Prop} {QG:G→Prop} {i j:Nat} {is:List Nat} {D1:E3} {t u:TS3} {e3 f3:TE3} {a3 b3 c3:TB3} {A3 B3:TT3} {t3:TA3} {tb:eP} {d:D} {l3 h3 s3:TO3} {bb:kz} {ys:List D}
theorem A6:xM t u D1 Γ=t { D1 with nx:=u D1 } Γ:=rfl
theorem y8:wF D1 Γ=D1.nx Γ:=rfl
theorem A5:uz i e3 D1 Γ=(e3 Γ fun r Γ1=>aZ Γ1 i∧D1.nx (Γ1.set i (some r.sl))):=rfl
theorem wU:Ak e3 D1 Γ=e3 Γ D1.rt:=rfl
theorem y9:tI e3 D1 Γ=(e3 Γ fun _ Γ1=>D1.nx Γ1):=rfl
theorem A4:tst e3 Γ QT=(e3 Γ fun x Γ1=>match x.d with | .bl k=>QT k Γ1 | _=>False):=rfl
theorem wX:bor i Γ QB=((∃ d,Gat Γ i=some d)∧QB (.v i) Γ):=rfl
theorem wY:bof e3 Γ QB=(e3 Γ fun x Γ1=>QB (.d x.d) Γ1):=rfl
theorem vK:w9 a3 tb Γ QL=(a3 Γ fun x Γ1=>tb Γ1 fun xs Γ2=>QL (x::xs) Γ2):=rfl
theorem y7:yy Γ QL=QL [] Γ:=rfl
theorem tu:gF e3 t3 Γ QA=(e3 Γ fun x Γ1=>t3 Γ1 fun xs Γ2=>QA (x.d::xs) Γ2):=rfl
theorem wV:sH Γ QA=QA [] Γ:=rfl
theorem h_c:t3C d Γ Q=Q (.fz d) Γ:=rfl
theorem Ba:zA A3 B3 Γ QT=(A3 Γ fun c Γ1=>bT c (B3 Γ1 QT) (QT false Γ1) ⟨⟩ ⟨⟩):=by
 show (A3 Γ fun c Γ1=>match c with | true=>B3 Γ1 QT | false=>QT false Γ1)=_
 congr 1
theorem CK:or3 A3 B3 Γ QT=(A3 Γ fun c Γ1=>bT c (QT true Γ1) (B3 Γ1 QT) ⟨⟩ ⟨⟩):=by
 show (A3 Γ fun c Γ1=>match c with | true=>QT true Γ1 | false=>B3 Γ1 QT)=_
 congr 1
theorem A7:yx A3 Γ QT=(A3 Γ fun c Γ1=>QT (!c) Γ1):=rfl
theorem CL:if3 A3 e3 f3 Γ Q=(A3 Γ fun c Γ1=>bT c (e3 Γ1 Q) (f3 Γ1 Q) ⟨⟩ ⟨⟩):=by
 show (A3 Γ fun c Γ1=>match c with | true=>e3 Γ1 Q | false=>f3 Γ1 Q)=_
 congr 1
theorem wW:AQ t3 Γ Q=(t3 Γ fun xs Γ1=>xs.length≤sizeLine∧Q (.fr (.lst xs)) Γ1):=rfl
theorem wR:rj t3 Γ Q=(t3 Γ fun xs Γ1=>xs.length≤sizeLine∧Q (.fz (.tup xs)) Γ1):=rfl
theorem A_:zz i e3 Γ Q=((∃ xs,bS Γ i=some xs)∧e3 Γ fun r Γ1=>∃ xs,bS Γ1 i=some xs∧xs.length < sizeLine∧Q (.fz .non) (putD Γ1 i (.lst (xs++[r.d])))):=rfl
theorem y4:Ab is e3 D1 Γ=(e3 Γ fun r Γ1=>∃ ds Γ',r.d=.tup ds∧gives Γ1 is ds=some Γ'∧frees Γ1 is ds∧D1.nx Γ'):=rfl
theorem y3:z9 a3 Γ QO=(a3 Γ fun x Γ1=>∃ i,x.at Γ1=some (.int i)∧QO (some i) Γ1):=rfl
theorem y6:AL Γ QO=QO none Γ:=rfl
abbrev hI (Iv:Nat→G→Prop) (k:Nat) (Γ:G) (_:Tag Iv):Prop:=Iv k Γ
def wH (xs:List D) (Γ1:G) (g3:TG3) (b3:TS3) (E1:E3) (_:Tag (g3,b3,E1)):Prop:=∃ Iv:Nat→G→Prop,Iv 0 Γ1∧(∀ k d Γ,xs[k]?=some d→Iv k Γ→g3 d Γ fun Γ'=>b3 { E1 with nx:=Iv (k + 1),ct:=Iv (k + 1),bk:=E1.nx } Γ')∧∀ Γ,Iv xs.length Γ→E1.nx Γ
theorem A9 {i3:TI3} {g3:TG3} {b3:TS3} {t1:Tag (i3,g3,b3)} {t2:Tag D1}:Bg i3 g3 b3 D1 Γ t1 t2=(i3 Γ fun xs Γ1=>wH xs Γ1 g3 b3 D1 ⟨⟩):=rfl
theorem cZ {xs:List D} {Γ1:G} {g3:TG3} {b3:TS3} {E1:E3} {t:Tag (g3,b3,E1)} (Iv:Nat→G→Prop) (h0:Iv 0 Γ1) (hs:∀ k d Γ,xs[k]?=some d→Iv k Γ→g3 d Γ fun Γ'=>b3 { E1 with nx:=fun Γ=>hI Iv (k + 1) Γ ⟨⟩,ct:=fun Γ=>hI Iv (k + 1) Γ ⟨⟩,bk:=E1.nx } Γ')
  (he:∀ Γ,Iv xs.length Γ→E1.nx Γ):wH xs Γ1 g3 b3 E1 t:=⟨Iv,h0,hs,he⟩
abbrev hJ (Iv:Nat→List D→G→Prop) (k:Nat) (ys:List D) (Γ:G) (_:Tag Iv):Prop:=Iv k ys Γ
def w_ (xs:List D) (Γ1:G) (fr:List (Option Nat)) (g3:TG3) (e3:TE3) (Q:RV→G→Prop) (_:Tag (fr,g3,e3,Q)):Prop:=∃ Iv:Nat→List D→G→Prop,Iv 0 [] (cT Γ1 (dW fr))∧
 (∀ k d ys Γc,xs[k]?=some d→ys.length=k→Iv k ys Γc→g3 d Γc fun Γ2=>e3 Γ2 fun r Γ3=>Iv (k + 1) (ys++[r.d]) Γ3)∧∀ ys Γc,ys.length=xs.length→Iv xs.length ys Γc→Q (.fr (.lst ys)) (bB fr Γ1 Γc)
theorem y_ {fr:List (Option Nat)} {i3:TI3} {g3:TG3} {t1:Tag (fr,i3,g3,e3)} {t2:Tag Q}:xa fr i3 g3 e3 Γ Q t1 t2=(i3 Γ fun xs Γ1=>xs.length < sizeLine∧w_ xs Γ1 fr g3 e3 Q ⟨⟩):=rfl
theorem bA {xs:List D} {Γ1:G} {fr:List (Option Nat)} {g3:TG3} {e3:TE3} {Q:RV→G→Prop} {t:Tag (fr,g3,e3,Q)} (Iv:Nat→List D→G→Prop) (h0:Iv 0 [] (cT Γ1 (dW fr)))
  (hs:∀ k d ys Γc,xs[k]?=some d→ys.length=k→Iv k ys Γc→g3 d Γc fun Γ2=>e3 Γ2 fun r Γ3=>hJ Iv (k + 1) (ys++[r.d]) Γ3 ⟨⟩) (he:∀ ys Γc,ys.length=xs.length→Iv xs.length ys Γc→Q (.fr (.lst ys)) (bB fr Γ1 Γc)):w_ xs Γ1 fr g3 e3 Q t:=⟨Iv,h0,hs,he⟩
def zo (xs:List D) (Γ1:G) (fr:List (Option Nat)) (g3:TG3) (b3:kz) (Q:RV→G→Prop) (_:Tag (fr,g3,b3,Q)):Prop:=sP xs g3 b3 [] (cT Γ1 (dW fr)) fun ys Γc=>ys.length < sizeLine∧Q (.fr (.lst ys)) (bB fr Γ1 Γc)
theorem vL {fr:List (Option Nat)} {i3:TI3} {g3:TG3} {t1:Tag (fr,i3,g3,bb)} {t2:Tag Q}:tM fr i3 g3 bb Γ Q t1 t2=(i3 Γ fun xs Γ1=>zo xs Γ1 fr g3 bb Q ⟨⟩):=rfl
theorem zk {n:Nat} {xs:List D}:eqN (n + 1) (.lst xs) (.lst [])=some xs.isEmpty:=by cases n <;> cases xs <;> rfl
theorem zm {n:Nat} {a b c:Int}:eqN (n + 1) (.lst [.int a,.int b,.int c]) (.lst [.int a,.int b,.int c])=some true:=by
 have:=nj (n:=n) [a,b,c] [a,b,c]
 rw[decide_eq_true rfl] at this
 exact this
theorem i28 {a b:Option D}:(if 2=8 then a else b)=b:=if_neg (by decide)
def tj (S:S3) (A:G) (L:List (Option Nat)) (Γ1:G) (Q:RV→G→Prop) (_:Tag Q):Prop:=S A (fun r Γa=>Q r (bB L Γ1 Γa))
def A2 (S:S3) (A:G) (Γ1:G) (Q:RV→G→Prop) (_:Tag Q):Prop:=S A (fun r Γa=>r=.fz .non∧w4 Γa (fun d=>Q (.fr d) Γ1) ⟨⟩)
theorem vY {n:Nat} {S:S3} {t3:eP}:oY n S t3 Γ Q=(t3 Γ fun bs Γ1=>bs.length=n∧(cD bs).Nodup∧tj S (cT Γ1 (bs.map some)) ((bs.map some).map bD) Γ1 Q ⟨⟩):=rfl
theorem yB {C:Addr} {m:Str} {n:Nat} {S:S3} {o3:TB3} {t3:eP}:pS C m n S o3 t3 Γ Q=(o3 Γ fun x Γ1=>(∃ ns xs,x.at Γ1=some (.ins C ns xs)∧m∉ns)∧t3 Γ1 fun bs Γ2=>bs.length + 1=n∧(cD (x::bs)).Nodup∧tj S (cT Γ2 ((x::bs).map some)) (((x::bs).map some).map bD) Γ2 Q ⟨⟩):=rfl
theorem yD {C:Addr} {n:Nat} {S:S3} {t3:TA3}:sM C n S t3 Γ Q=(t3 Γ fun ds Γ1=>ds.length + 1=n∧A2 S (some (.ln (.ins C [] []))::ds.map fun d=>some (.fz d)) Γ1 Q ⟨⟩):=rfl
theorem vX {S:S3}:zt i S e3 Γ Q=((∃ d,Gat Γ i=some d)∧e3 Γ fun r Γ1=>Bf r (fun d=>tj S [kh Γ1 (.v i),some (.ln d)] [some i,none] Γ1 Q ⟨⟩) ⟨⟩):=rfl
def bG (c:Bool) (t u:TS3) (E1:E3) (Γ:G) (_:Tag (t,u,E1)):Prop:=match c with
 | true=>t E1 Γ
 | false=>u E1 Γ
theorem C7 {s:Tag (t,u,D1)}:bG true t u D1 Γ s=t D1 Γ:=rfl
theorem C8 {s:Tag (t,u,D1)}:bG false t u D1 Γ s=u D1 Γ:=rfl
theorem fZ {c:Bool} {s:Tag (t,u,D1)} (h1:c=true→t D1 Γ) (h2:c=false→u D1 Γ):bG c t u D1 Γ s:=by
 cases c with
 | true=>exact h1 rfl
 | false=>exact h2 rfl
theorem A8:yY A3 t u D1 Γ=(A3 Γ fun c Γ1=>bG c t u D1 Γ1 ⟨⟩):=by
 show (A3 Γ fun c Γ1=>match c with | true=>t D1 Γ1 | false=>u D1 Γ1)=_
 congr 1
theorem CO {e:D}:gF (t3C e) t3 Γ QA=(t3 Γ fun xs Γ2=>QA (e::xs) Γ2):=rfl
theorem wQ {d e:D}:rj (gF (t3C d) (gF (t3C e) sH)) Γ Q=Q (.fz (.tup [d,e])) Γ:=by
 show (2≤sizeLine∧Q (.fz (.tup [d,e])) Γ)=_
 exact propext ⟨fun h=>h.2,fun h=>⟨by rw[sizeLine_eq];decide,h⟩⟩
theorem CP {d e:D}:gF (rj (gF (t3C d) (gF (t3C e) sH))) t3 Γ QA=(t3 Γ fun xs Γ2=>QA (.tup [d,e]::xs) Γ2):=by
 show rj (gF (t3C d) (gF (t3C e) sH)) Γ (fun x Γ1=>t3 Γ1 fun xs Γ2=>QA (x.d::xs) Γ2)=_
 rw[wQ];rfl
end
theorem ln1 {α:Type} {us:List α} (h:us.length=1):∃ a,us=[a]:=by
 match us,h with
 | [a],_=>exact⟨a,rfl⟩
theorem ln2 {α:Type} {us:List α} (h:us.length=2):∃ a b,us=[a,b]:=by
 match us,h with
 | [a,b],_=>exact⟨a,b,rfl⟩
theorem ln3 {α:Type} {us:List α} (h:us.length=3):∃ a b c,us=[a,b,c]:=by
 match us,h with
 | [a,b,c],_=>exact⟨a,b,c,rfl⟩
end L3
namespace L3
open PySem L2
mutual
def i9:D→List Addr
 | .cel p xs=>p::jj xs
 | .lst xs=>jj xs
 | .tup xs=>jj xs
 | .ktup xs=>jj xs
 | .ins _ _ xs=>jj xs
 | .exc _ _ xs=>jj xs
 | _=>[]
def jj:List D→List Addr
 | []=>[]
 | x::xs=>i9 x++jj xs
end
def Sl.d:Sl→D
 | .fz d=>d
 | .ow d=>d
 | .ln d=>d
def kZ:G→List Addr
 | []=>[]
 | none::Γ=>kZ Γ
 | some s::Γ=>i9 s.d++kZ Γ
section
variable {K:PySem.W.Frag} {B:Bs} {F:Hp} {σ:L2.St} {H:Hp} {Γ:G} {X:Cx}
mutual
theorem Rep.i9:∀ {d:D} {v:V},Rep K F d v→∀ {q:Addr},q∈i9 d→∃ o,F q=some o
 | .cel p xs,v,⟨_,vs,h2,h3⟩,q,h=>by
  rcases List.mem_cons.mp h with rfl | h
  ·exact⟨_,h2⟩
  ·exact au.i9 h3 h
 | .lst xs,v,⟨p,vs,_,_,h3⟩,q,h=>au.i9 h3 h
 | .tup xs,v,⟨p,vs,_,_,h3⟩,q,h=>au.i9 h3 h
 | .ktup xs,v,⟨p,vs,_,_,h3⟩,q,h=>au.i9 h3 h
 | .ins _ _ xs,v,⟨p,dx,gs,_,_,_,h3⟩,q,h=>au.i9 h3 h
 | .exc _ _ xs,v,⟨p,dx,gs,_,_,_,_,h3⟩,q,h=>au.i9 h3 h
 | .non,_,_,_,h=>nomatch h
 | .dct,_,_,_,h=>nomatch h
 | .bl _,_,_,_,h=>nomatch h
 | .int _,_,_,_,h=>nomatch h
 | .str _,_,_,_,h=>nomatch h
 | .scr _,_,_,_,h=>nomatch h
 | .ty _,_,_,_,h=>nomatch h
 | .adr _,_,_,_,h=>nomatch h
theorem au.i9:∀ {xs:List D} {vs:List V},au K F xs vs→∀ {q:Addr},q∈jj xs→∃ o,F q=some o
 | [],_,_,_,h=>nomatch h
 | x::xs,_,⟨v,ws,_,h1,h2⟩,q,h=>by
  rcases List.mem_append.mp h with h | h
  ·exact Rep.i9 h1 h
  ·exact au.i9 h2 h
end
def Bs.hid (B:Bs) (p:Addr) (o:HO):Bs:=⟨B.F,upd B.H p o,B.own⟩
def frL (r:RV) (k:List D→Prop):Prop:=match r with
 | .fr (.lst xs)=>k xs
 | _=>False
def B6 (a3 b3:TE3) (Γ:G) (Q:RV→G→Prop):Prop:=a3 Γ fun r Γ1=>frL r fun xs=>b3 Γ1 fun r' Γ2=>frL r' fun ys=>Q (.two xs ys) Γ2
variable {a b:Expr} {ta tb:TE} {a3 b3:TE3} {pos:Pos}
def zO (r:RV) (k:List D→List D→Prop):Prop:=match r with
 | .two xs ys=>k xs ys
 | _=>False
def Aa (i j:Nat) (e3:TE3) (D:E3) (Γ:G):Prop:=e3 Γ fun r Γ1=>zO r fun xs ys=>∀ p q,p≠q→p∉kZ Γ1→q∉kZ Γ1→aZ Γ1 i∧aZ (Γ1.set i (some (.fz (.cel p xs)))) j∧D.nx ((Γ1.set i (some (.fz (.cel p xs)))).set j (some (.fz (.cel q ys))))
def xE (i:Nat) (Γ:G) (Q:RV→G→Prop):Prop:=match Γ[i]? with
 | some (some (.fz (.cel _ xs)))=>Q (.fz (.lst xs)) Γ
 | _=>False
def xD (i:Nat) (Γ:G) (Q:RV→G→Prop):Prop:=match Γ[i]? with
 | some (some (.ow (.lst xs)))=>∀ p,p∉kZ Γ→Q (.fz (.cel p xs)) (Γ.set i (some (.fz (.cel p xs))))
 | _=>False
def nm3 (a3:TE3) (Γ:G) (Q:RV→G→Prop):Prop:=a3 Γ fun r Γ1=>frL r fun xs=>∀ p,p∉kZ Γ1→Q (.fz (.cel p xs)) Γ1
def iT3 (a3:TE3) (Γ:G) (Q:List D→G→Prop):Prop:=a3 Γ fun r Γ1=>∃ xs,r.d=.tup xs∧Q xs Γ1
theorem yZ {tg l:Expr} {tl:TE} {l3:TE3} (hK:X.K=K) (h:P3 K X l tl l3):P3I K X tg l (AY K tl) (iT3 l3):=⟨by subst hK;exact x8 h.pe,fun B F σ H Γ Q R e q k=>
 h.rf B F σ H Γ _ _ e q fun v H' ⟨F',Γ',r,s,e',rv,xs,hx,q'⟩=>by
  obtain⟨F2,s2,e2,r2⟩:=e'.frozen rv
  rw[hx] at r2
  obtain⟨p,vs,rfl,h1,h2⟩:=r2
  refine⟨p,rfl,⟨vs,SqT.of (e2.sub _ _ h1)⟩,k _ H' F2 Γ' xs (s.trans s2) e2 ⟨fun i H'' sm lt=>?_,fun i H'' sm ei=>?_,fun i H'' x H3 d sm hd y=>?_⟩ q'⟩
  ·rw[← h2.length] at lt
   exact⟨vs,vs[i],SqT.of (sm _ _ h1),by simp [lt]⟩
  ·exact⟨vs,SqT.of (sm _ _ h1),by rw[h2.length];omega⟩
  ·obtain⟨e1,y⟩:=y
   obtain⟨d',hd',r⟩:=h2.vM (y vs (SqT.of (sm _ _ h1)))
   rw[hd] at hd';cases hd'
   exact .inl ⟨e1,r⟩⟩
end
end L3
namespace L3
open PySem L2 PySem.Spec PyProof.Rows
mutual
def pin:D→Bool
 | .cel _ xs=>mR xs
 | .tup xs=>mR xs
 | .ins _ _ xs=>mR xs
 | .lst _=>false
 | .ktup _=>false
 | .scr _=>false
 | .exc _ _ _=>false
 | .dct=>true
 | .non=>true
 | .bl _=>true
 | .int _=>true
 | .str _=>true
 | .ty _=>true
 | .adr _=>true
def mR:List D→Bool
 | []=>true
 | x::xs=>pin x && mR xs
end
mutual
def clr (p:Addr):D→D
 | .cel q xs=>if q=p then .cel q [] else .cel q (mn p xs)
 | .tup xs=>.tup (mn p xs)
 | .ins C ns xs=>.ins C ns (mn p xs)
 | .non=>.non
 | .bl b=>.bl b
 | .int i=>.int i
 | .str s=>.str s
 | .ty n=>.ty n
 | .adr a=>.adr a
 | .lst xs=>.lst xs
 | .ktup xs=>.ktup xs
 | .scr ns=>.scr ns
 | .exc C ns xs=>.exc C ns xs
 | .dct=>.dct
def mn (p:Addr):List D→List D
 | []=>[]
 | x::xs=>clr p x::mn p xs
end
section
variable {K:PySem.W.Frag} {B:Bs} {F:Hp} {σ:L2.St} {H:Hp} {Γ:G} {X:Cx} {p:Addr}
mutual
theorem Rep.clr {ws:List V} (hp:F p=some (.lst ws)):∀ {d:D} {v:V},Rep K F d v→pin d=true→Rep K (upd F p (.lst [])) (clr p d) v
 | .cel q xs,v,h,hd=>by
  rw[pin] at hd
  rw[L3.clr]
  rw[Rep] at h
  obtain⟨h1,vs,h2,h3⟩:=h
  by_cases z:q=p
  ·subst z
   rw[if_pos rfl,Rep]
   exact⟨h1,[],ax,by rw[au]⟩
  ·rw[if_neg z,Rep]
   exact⟨h1,vs,by rw[ag z];exact h2,au.clr hp h3 hd⟩
 | .tup xs,v,h,hd=>by
  rw[pin] at hd
  rw[L3.clr,Rep]
  rw[Rep] at h
  obtain⟨q,vs,h1,h2,h3⟩:=h
  exact⟨q,vs,h1,by rw[ag (fun z=>by rw[z,hp] at h2;cases h2)];exact h2,au.clr hp h3 hd⟩
 | .ins C ns xs,v,h,hd=>by
  rw[pin] at hd
  rw[L3.clr,Rep]
  rw[Rep] at h
  obtain⟨q,dx,gs,h1,h2,h3,h4⟩:=h
  exact⟨q,dx,gs,h1,by rw[ag (fun z=>by rw[z,hp] at h2;cases h2)];exact h2,h3,au.clr hp h4 hd⟩
 | .non,v,h,_=>by rw[L3.clr,Rep];rw[Rep] at h;exact h
 | .dct,v,h,_=>by
  rw[L3.clr,Rep]
  rw[Rep] at h
  obtain⟨q,h1,h2⟩:=h
  exact⟨q,h1,by rw[ag (fun z=>by rw[z,hp] at h2;cases h2)];exact h2⟩
 | .bl _,v,h,_=>by rw[L3.clr,Rep];rw[Rep] at h;exact h
 | .int _,v,h,_=>by rw[L3.clr,Rep];rw[Rep] at h;exact h
 | .str _,v,h,_=>by rw[L3.clr,Rep];rw[Rep] at h;exact h
 | .ty _,v,h,_=>by rw[L3.clr,Rep];rw[Rep] at h;exact h
 | .adr _,v,h,_=>by rw[L3.clr,Rep];rw[Rep] at h;exact h
 | .lst _,v,h,hd=>by rw[pin] at hd;cases hd
 | .ktup _,v,h,hd=>by rw[pin] at hd;cases hd
 | .scr _,v,h,hd=>by rw[pin] at hd;cases hd
 | .exc _ _ _,v,h,hd=>by rw[pin] at hd;cases hd
theorem au.clr {ws:List V} (hp:F p=some (.lst ws)):∀ {xs:List D} {vs:List V},au K F xs vs→mR xs=true→au K (upd F p (.lst [])) (mn p xs) vs
 | [],vs,h,_=>by rw[mn,au];rw[au] at h;exact h
 | x::xs,vs,h,hd=>by
  rw[mR,Bool.and_eq_true] at hd
  rw[mn,au]
  rw[au] at h
  obtain⟨v,us,h1,h2,h3⟩:=h
  exact⟨v,us,h1,Rep.clr hp h2 hd.1,au.clr hp h3 hd.2⟩
end
def CV (p:Addr):Option Sl→Option Sl
 | some (.ow (.lst xs))=>some (.ow (.lst (mn p xs)))
 | some (.ln (.lst xs))=>some (.ln (.lst (mn p xs)))
 | _=>none
def Bt (p:Addr):G→G
 | []=>[]
 | s::Γ=>CV p s::Bt p Γ
def Cu:Option Sl→Prop
 | some (.ow (.lst xs))=>mR xs=true
 | some (.ln (.lst xs))=>mR xs=true
 | some (.ow _)=>False
 | some (.ln _)=>False
 | _=>True
def BQ:G→Prop
 | []=>True
 | s::Γ=>Cu s∧BQ Γ
def BL (K:PySem.W.Frag) (t:TS) (t3:TS3):Prop:=∀ (B:Bs),(∀ x,B.F x=none)→∀ (F:Hp) (σ:L2.St) (H:Hp) (Γ:G) (D:Ends) (D3:E3),En K B F σ H Γ→iJ K B B.F D D3→t3 D3 Γ→t D σ H
structure DI (K:PySem.W.Frag) (X:Cx) (st:List Stmt) (t:TS) (t3:TS3):Prop where
 pe:PSs X st t
 rf:BL K t t3
variable {st:Stmt} {rest:List Stmt} {t u:TS} {t3 u3:TS3}
def Bu (r:RV) (k:Addr→Prop):Prop:=match r with
 | .fz (.cel p _)=>k p
 | _=>False
def CW (o3:TE3) (D:E3) (Γ:G):Prop:=o3 Γ fun r Γ1=>Bu r fun p=>BQ Γ1∧D.nx (Bt p Γ1)
end
def vq:Hp:=fun _=>none
def DW (K:PySem.W.Frag) (n:Nat) (S:S3):Sp:=fun vs H Q _=>vs.length=n∧∃ own Γa Q3,En K ⟨vq,H,own⟩ vq (vs.map some) H Γa∧(∀ (k:Nat) (d:D),Γa[k]?≠some (some (Sl.ow d)))∧S Γa Q3∧∀ r Γ',Q3 r Γ'→∀ v H' F',En K ⟨vq,H,own⟩ F' (vs.map some) H' Γ'→e9 K ⟨vq,H,own⟩ F' (vs.map some) H' Γ' v r→Q v H'
section
variable {P:Program} {w:World} {K:PySem.W.Frag} {mg:Str→Option Value} {base:Heap}
end
end L3
namespace L3
open PySem L2 PySem.Spec PyProof.Rows
def kpE (f:List Int→Sl) (C:List Int→Str→List Int→Prop) (R:List Int→List Int→Prop):S3:=fun Γ Q=>∃ (bs:List Int) (z:Str) (ns:List Int),Γ=[some (.ln (.lst (bs.map .int))),some (.fz (.str z)),some (f ns)]∧C bs z ns∧∀ bs',R bs bs'→Q (.fz (.bl true)) [some (.ln (.lst (bs'.map .int))),some (.fz (.str z)),some (f ns)]
section
variable {P:Program} {w:World} {K:PySem.W.Frag} {mg:Str→Option Value} {base:Heap}
end
end L3
namespace L3
open PySem L2 PySem.Spec PyProof.Rows
section
variable {K:PySem.W.Frag} {B:Bs} {F:Hp} {σ:L2.St} {H:Hp} {Γ:G} {X:Cx} {pos:Pos}
def AF (i j:Nat) (a3 b3:TE3) (D:E3) (Γ:G):Prop:=a3 Γ fun r Γ1=>frL r fun xs=>b3 Γ1 fun r' Γ2=>frL r' fun ys=>aZ Γ2 i∧aZ (Γ2.set i (some (.ow (.lst xs)))) j∧D.nx ((Γ2.set i (some (.ow (.lst xs)))).set j (some (.ow (.lst ys))))
def zP (i:Nat) (b3:TE3) (Γ:G) (Q:RV→G→Prop):Prop:=(∃ d,Gat Γ i=some d)∧b3 Γ fun r' Γ2=>frL r' fun ys=>∃ xs,Γ2[i]?=some (some (Sl.ow (.lst xs)))∧Q (.two xs ys) (Γ2.set i none)
def CQ (a3:TE3) (Γ:G) (Q:RV→G→Prop):Prop:=a3 Γ fun r Γ1=>Q (.fz r.d) Γ1
end
abbrev rd2 (f:List Int→Sl) (C:List Int→Int→Prop) (g:List Int→Int→List Int):S3:=fun Γ Q=>∃ (ns:List Int) (m:Int),Γ=[some (f ns),some (.fz (.int m))]∧C ns m∧Q (.fr (.lst ((g ns m).map .int))) Γ
section
variable {P:Program} {w:World} {K:PySem.W.Frag} {mg:Str→Option Value} {base:Heap}
end
end L3
namespace L3
open PySem L2
def wd (i:Int):List Nat:=(toString i).toList.map Char.toNat
theorem sA (s:String):(Str.ofString s).cps.toList=s.toList.map Char.toNat:=by rw[Str.ofString_eq_toList]
def Wd (w:List Nat):Prop:=∀ c∈w,c≠44∧c≠93
def tl:List Int→List Nat
 | []=>[93]
 | i::is=>44::32::(wd i++tl is)
def lt:List Int→List Nat
 | []=>[91,93]
 | i::is=>91::(wd i++tl is)
end L3
namespace L3
open PySem L2 PySem.Spec PyProof.Rows
structure XD where
 C:Addr
 ns:List Str
 xs:List D
def BI (K:PySem.W.Frag) (F:Hp) (cls:Value) (dx:Option Addr) (x:XD):Prop:=cls=.ref x.C∧∃ d gs,dx=some d∧F d=some (XdO d gs)∧gs.map (·.1)=x.ns∧au K F x.xs (gs.map (·.2))
def XR (K:PySem.W.Frag) (B:Bs) (F0:Hp) (E:L2.St→XK) (W:XD→G→Prop):Prop:=∀ F' σ' H' Γ' cls dx x,aC F0 F'→En K B F' σ' H' Γ'→BI K F' cls dx x→W x Γ'→E σ' cls dx H'
def BK (K:PySem.W.Frag) (B:Bs) (F0:Hp) (t:TE) (t3:TE3):Prop:=∀ (F:Hp) (σ:L2.St) (H:Hp) (Γ:G) (Q:RV→G→Prop) (QQ:VK),aC F0 F→En K B F σ H Γ→t3 Γ Q→(∀ v H',Po K B F σ Q v H'→QQ v H')→t σ H QQ
def lr (K:PySem.W.Frag) (B:Bs) (F0:Hp) (t:TS) (t3:TS3):Prop:=∀ (F:Hp) (σ:L2.St) (H:Hp) (Γ:G) (D:Ends) (D3:E3),aC F0 F→En K B F σ H Γ→iJ K B F D D3→t3 D3 Γ→t D σ H
structure P3X (K:PySem.W.Frag) (X:Cx) (B:Bs) (F0:Hp) (e:Expr) (t:TE) (t3:TE3):Prop where
 pe:PE X e t
 rf:BK K B F0 t t3
structure nK (K:PySem.W.Frag) (X:Cx) (B:Bs) (F0:Hp) (st:Stmt) (t:TS) (t3:TS3):Prop where
 pe:PS X st t
 rf:lr K B F0 t t3
structure iH (K:PySem.W.Frag) (X:Cx) (B:Bs) (F0:Hp) (st:List Stmt) (t:TS) (t3:TS3):Prop where
 pe:PSs X st t
 rf:lr K B F0 t t3
section
variable {K:PySem.W.Frag} {X:Cx} {B:Bs} {F0:Hp} {e:Expr} {st:Stmt} {rest:List Stmt} {te:TE} {e3:TE3} {t u:TS} {t3 u3:TS3} {pos:Pos}
theorem P3S.x (h:P3S K X st t t3):nK K X B F0 st t t3:=⟨h.pe,fun F σ H Γ D D3 _=>h.rf B F σ H Γ D D3⟩
theorem jA.x (h:jA K X rest t t3):iH K X B F0 rest t t3:=⟨h.pe,fun F σ H Γ D D3 _=>h.rf B F σ H Γ D D3⟩
theorem nQ (h:nK K X B F0 st t t3):iH K X B F0 [st] t t3:=⟨jE h.pe,h.rf⟩
theorem uf (h:nK K X B F0 st t t3) (h2:iH K X B F0 rest u u3):iH K X B F0 (st::rest) (xy t u) (xM t3 u3):=
 ⟨jW h.pe h2.pe,fun F σ H Γ D D3 w e k q=>h.rf F σ H Γ { D with nx:=u D } { D3 with nx:=u3 D3 } w e ⟨fun F' σ' H' Γ' s e' q'=>h2.rf F' σ' H' Γ' D D3 (w.trans s) e' (k.mono s) q',k.rt,k.bk,k.ct⟩ q⟩
theorem ue (h:P3X K X B F0 e te e3) (hs:swapsWith e none pos.line X.env=pure false:=by rfl):nK K X B F0 (.Expr e pos) (rq te) (tI e3):=⟨jF h.pe hs,fun F σ H Γ D D3 w e k q=>
 h.rf F σ H Γ _ _ w e q fun v H' ⟨F',Γ',r,s,e',rv,q'⟩=>k.nx F' σ H' Γ' s e' q'⟩
theorem zL {c:Expr} {a b:List Stmt} {tc:TT} {A3:TT3} (hc:P3T K X c tc A3) (ha:iH K X B F0 a t t3) (hb:iH K X B F0 b u u3):nK K X B F0 (.If c a b pos) (xB tc t u) (yY A3 t3 u3):=⟨wz hc.pe ha.pe hb.pe,fun F σ H Γ D D3 w e k q=>
 hc.rf B F σ H Γ _ _ e q fun b H' ⟨F',Γ',s,e',q'⟩=>by
  cases b with
  | true=>exact ha.rf F' σ H' Γ' D D3 (w.trans s) e' (k.mono s) q'
  | false=>exact hb.rf F' σ H' Γ' D D3 (w.trans s) e' (k.mono s) q'⟩
end
abbrev S3X:=G→(RV→G→Prop)→(XD→G→Prop)→Prop
def qp (K:PySem.W.Frag) (n:Nat) (S:S3X):Sp:=fun vs H Q E=>vs.length=n∧∃ F own Γa Q3 W3,En K ⟨F,H,own⟩ F (vs.map some) H Γa∧(∀ (k:Nat) (d:D),Γa[k]?≠some (some (Sl.ow d)))∧S Γa Q3 W3∧
 (∀ r Γ',Q3 r Γ'→∀ v H' F',En K ⟨F,H,own⟩ F' (vs.map some) H' Γ'→e9 K ⟨F,H,own⟩ F' (vs.map some) H' Γ' v r→Q v H')∧
 ∀ x Γ',W3 x Γ'→∀ H' F' cls dx,En K ⟨F,H,own⟩ F' (vs.map some) H' Γ'→BI K F' cls dx x→E cls dx H'
def oZ (n:Nat) (S:S3X) (t3:eP) (W:XD→G→Prop) (Γ:G) (Q:RV→G→Prop):Prop:=t3 Γ fun bs Γ1=>bs.length=n∧(cD bs).Nodup∧S (cT Γ1 (bs.map some)) (fun r Γa=>Q r (bB ((bs.map some).map bD) Γ1 Γa)) fun x Γa=>W x (bB ((bs.map some).map bD) Γ1 Γa)
section
variable {K:PySem.W.Frag} {B:Bs} {F0:Hp}
theorem qv {t:TA} {t3:eP} {S:S3X} {n:Nat} {E:L2.St→XK} {W:XD→G→Prop} (h:nJ K t t3) (x:XR K B F0 E W):BK K B F0 (nZ (qp K n S) [] E t) (oZ n S t3 W):=by
 intro F σ H Γ Q QQ w e q k
 refine h B F σ H Γ _ _ e q fun vs H1 ⟨F1,Γ1,bs,s1,e1,r1,hn,nd,q1⟩=>?_
 show qp K n S (vs++[]) H1 QQ (E σ)
 rw[List.append_nil]
 refine⟨by rw[r1.length];exact hn,F1,_,_,_,_,e1.args r1 nd,jM,q1,fun r Γa q v H' F' e2 rv=>?_,fun y Γa q H' F' cls dx e2 xr=>?_⟩
 ·obtain⟨s2,e3,rv2⟩:=e1.called e2 rv
  exact k _ _ ⟨F',_,r,s1.trans s2,e3,rv2,q⟩
 ·obtain⟨s2,e3,_⟩:=e1.called e2 (v:=.non) (r:=.fz .non) rfl
  exact x F' σ H' _ cls dx y ((w.trans s1).trans s2) e3 xr q
end
section
variable {P:Program} {w:World} {K:PySem.W.Frag} {mg:Str→Option Value} {base:Heap}
theorem Cw {x qual:Str} {st:Stmt} {f:Addr} {fd:FuncData} {N ps:List Str} {k:Nat} {S:S3X} (F:Fun K x qual st f fd) (Sc:aJ N ps (ab st)) (hN:ps.length≤N.length:=by decide)
  (hbody:∀ (cdv:Value) (A:Around) (outer:List Env) (s:Shared) (H:Hp) (E:XK),bP k (A.deeper (envOfC qual (ab st) s.heap.objs.size f cdv))→
   ∃ (t:TS) (t3:(XD→G→Prop)→TS3),(∀ B F0 W,XR K B F0 (fun _=>E) W→iH K (i5 (CX1 P w base) P w K mg base N qual (ab st) f cdv A outer s H E) B F0 (aj st) t (t3 W))∧
    ∀ Γa Q W3,S Γa Q W3→Γa.length=ps.length→t3 (fun x Γ'=>W3 x (dG Γa Γ')) { nx:=fun Γ'=>Q (.fz .non) (dG Γa Γ'),rt:=fun r Γ'=>Q r (dG Γa Γ') } (dq N Γa)) :
  aX P w K mg base (CX1 P w base) (k + 1) f fd ps (qp K ps.length S):=by
 obtain⟨oc,od,kV,doc,pm,an,cdv,ct,osl,rfl,lk,hcd⟩:=F.ex
 refine w5 lk hcd Sc (fun vs H Q E h=>h.1) fun A outer s H vs Q E hr h=>?_
 obtain⟨hl,F0,own,Γa,Q3,W3,e,hno,hS,hQ,hW⟩:=h
 obtain⟨t,t3,ht,rd⟩:=hbody cdv A outer s H E hr
 have hla:Γa.length=ps.length:=by rw[← e.len,List.length_map];exact hl
 have xr:XR K ⟨F0,H,own⟩ F0 (fun _=>E) (fun x Γ'=>W3 x (dG Γa Γ')):=fun F' σ' H' Γ' cls dx x _ e' r q=>by
  obtain⟨a,_⟩:=e.out hno e' (v:=.non) (r:=.fz .non) rfl
  exact hW _ _ q _ _ _ _ a r
 have hp:=ht ⟨F0,H,own⟩ F0 _ xr
 refine⟨t,hp.pe,hp.rf F0 _ H _ _ { nx:=fun Γ'=>Q3 (.fz .non) (dG Γa Γ'),rt:=fun r Γ'=>Q3 r (dG Γa Γ') } (aC.refl F0) (e.start (N:=N) (by rw[hla];exact hN)) ⟨?_,?_,fun _ _ _ _ _ _ z=>False.elim z,fun _ _ _ _ _ _ z=>False.elim z⟩ (rd Γa Q3 W3 hS hla)⟩
 ·intro F' σ' H' Γ' s' e' q
  obtain⟨a,b⟩:=e.out hno e' (v:=.non) (r:=.fz .non) rfl
  exact hQ _ _ q _ _ _ a b
 ·intro F' σ' H' Γ' v r s' e' rv q
  obtain⟨a,b⟩:=e.out hno e' rv
  exact hQ _ _ q _ _ _ a b
end
end L3
namespace L3
open PySem L2 PySem.Spec PyProof.Rows
section
variable {K:PySem.W.Frag} {X:Cx} {B:Bs} {F0:Hp} {e:Expr} {te:TE} {e3:TE3} {pos:Pos}
end
section
variable {K:PySem.W.Frag} {X:Cx} {B:Bs} {F0:Hp} {CX:CXT} {k:Nat} {f C:Addr} {fd:FuncData} {ps:List Str} {x m:Str} {p pos apos:Pos} {e o:Expr} {es:List Expr} {ta:TE} {t:TA} {t3:eP} {o3:TB3} {n:Nat} {S:S3X} {E:L2.St→XK} {W:XD→G→Prop}
theorem ug (hK:X.K=K) (xr:XR K B F0 E W) (F:aX X.prog X.w X.K X.mg X.base CX k f fd ps (qp K n S)) (hx:jN CX X E) (hr:bP k X.A) (hg:Gl X x) (hm:X.mg x=some (.ref f)) (hk:PySem.W.keepIn X.K (.ref f)=true) (hb:Binds X.K fd ps [])
  (ha:nL K X (e::es) t t3) (hdb:(x == ("__debug__":Str))=false:=by decide) (he:starEach (e::es) X.env=(false,eval e X.env)::starEach es X.env:=by rfl) (hpl:(backTo pos (starEach es X.env)).any (·.1)=false:=by rfl) :
  P3X K X B F0 (.Call (.Name x p) (e::es) [] pos) (nZ (qp K n S) [] E t) (oZ n S t3 W):=⟨sd F hr hg hm hk hb .nil hx ha.pe hdb he hpl,qv ha.rf xr⟩
def CC (C:Addr) (m:Str) (n:Nat) (S:S3X) (o3:TB3) (t3:eP) (W:XD→G→Prop) (Γ:G) (Q:RV→G→Prop):Prop:=o3 Γ fun x Γ1=>(∃ ns xs,x.at Γ1=some (.ins C ns xs)∧m∉ns)∧t3 Γ1 fun bs Γ2=>bs.length + 1=n∧(cD (x::bs)).Nodup∧
 S (cT Γ2 ((x::bs).map some)) (fun r Γa=>Q r (bB (((x::bs).map some).map bD) Γ2 Γa)) fun y Γa=>W y (bB (((x::bs).map some).map bD) Γ2 Γa)
end
def ur (K:PySem.W.Frag) (C:Addr) (ns:List Str):Sp:=fun vs H Q _=>∃ e ys,vs=.ref e::ys∧ys.length=ns.length∧H e=some (cC e C none)∧∀ d,H d=none→d≠e→Q .non (upd (upd H d (XdO d (ns.zip ys))) e (cC e C (some d)))
def og (C:Addr) (ns:List Str) (t3:TA3) (W:XD→G→Prop) (_:E3) (Γ:G):Prop:=t3 Γ fun ds Γ1=>ds.length=ns.length∧W ⟨C,ns,ds⟩ Γ1
theorem ph:∀ {ns:List Str} {ys:List V},ys.length=ns.length→(ns.zip ys).map (·.1)=ns
 | [],[],_=>rfl
 | n::ns,y::ys,h=>by simp only[List.zip_cons_cons,List.map_cons];rw[ph (by simpa using h)]
 | [],_::_,h=>by cases h
 | _::_,[],h=>by cases h
theorem pf:∀ {ns:List Str} {ys:List V},ys.length=ns.length→(ns.zip ys).map (·.2)=ys
 | [],[],_=>rfl
 | n::ns,y::ys,h=>by simp only[List.zip_cons_cons,List.map_cons];rw[pf (by simpa using h)]
 | [],_::_,h=>by cases h
 | _::_,[],h=>by cases h
section
variable {K:PySem.W.Frag} {X:Cx} {B:Bs} {F0:Hp} {CX:CXT} {k:Nat} {f C:Addr} {fd:FuncData} {ps ns:List Str} {x:Str} {p pos cpos:Pos} {e:Expr} {es:List Expr} {t:TA} {t3:TA3} {E:XK} {W:XD→G→Prop}
theorem qu (h:zE K t t3) (xr:XR K B F0 (fun _=>E) W):lr K B F0 (nX C (ur K C ns) [] E0 E t) (og C ns t3 W):=by
 intro F σ H Γ D D3 w e kk q
 refine h B F σ H Γ _ _ e q fun vs H1 ⟨F1,Γ1,ds,s1,e1,r1,hn,q1⟩ y hy=>?_
 rw[List.append_nil]
 have hl:vs.length=ns.length:=by rw[r1.length];exact hn
 refine⟨y,vs,rfl,hl,ax,fun d hd ne=>⟨rfl,some d,ax,?_⟩⟩
 have hd1:H1 d=none:=by rw[ag ne] at hd;exact hd
 have eq:L2.del (upd (upd (upd H1 y (cC y C none)) d (XdO d (ns.zip vs))) y (cC y C (some d))) y=upd H1 d (XdO d (ns.zip vs)):=by
  funext b
  by_cases h1:b=y
  ·subst h1;rw[iz,ag (Ne.symm ne)];exact hy.symm
  ·rw[fS h1,ag h1]
   by_cases h2:b=d
   ·subst h2;rw[ax,ax]
   ·rw[ag h2,ag h2,ag h1]
 rw[eq]
 have hF:F1 d=none:=by
  cases z:F1 d with
  | none=>rfl
  | some o=>rw[e1.sub d o z] at hd1;cases hd1
 have e2:=e1.alloc hd1 (XdO d (ns.zip vs))
 have e3:=e2.freeze hF ax (e1.dom d hd1) (e1.oB hd1)
 refine xr _ σ _ Γ1 _ _ ⟨C,ns,ds⟩ ((w.trans s1).trans (aU hF)) e3 ⟨rfl,d,_,rfl,ax,ph hl,?_⟩ q1
 rw[pf hl]
 exact r1.mono (aU hF)
theorem qZ (hK:X.K=K) (xr:XR K B F0 (fun _=>E) W) (M:XMk X.K C f) (F:aX X.prog X.w X.K X.mg X.base CX0 k f fd ps (ur K C ns)) (hr:bP (k + 1) X.A) (hg:Gl X x) (hm:X.mg x=some (.ref C)) (hb:Binds X.K fd ps []) (hR:Raises X E) (hz:ps.length≤sizeLine)
  (ha:P3A K X (e::es) t t3) (hdb:(x == ("__debug__":Str))=false:=by decide) (he:starEach (e::es) X.env=(false,eval e X.env)::starEach es X.env:=by rfl) (hpl:(backTo cpos (starEach es X.env)).any (·.1)=false:=by rfl) :
  nK K X B F0 (.Raise (some (.Call (.Name x p) (e::es) [] cpos)) none pos) (nX C (ur K C ns) [] E0 E t) (og C ns t3 W):=
 ⟨rW M F hr hg hm hb .nil kM hR hz ha.pe hdb he hpl,qu ha.rf xr⟩
end
end L3
namespace L3
open PySem L2 PySem.Spec PyProof.Rows
def E3.l_ (D:E3) (i:Nat):E3:=⟨fun Γ=>aZ Γ i∧D.nx (Γ.set i none),D.rt,fun Γ=>aZ Γ i∧D.bk (Γ.set i none),fun Γ=>aZ Γ i∧D.ct (Γ.set i none)⟩
def wt (K:PySem.W.Frag) (C₀:Addr) (i:Nat) (s3:TS3) (D:E3) (x:XD) (Γ:G):Prop:=PySem.W.mroIn K x.C (.ref C₀)=some true∧aZ Γ i∧s3 (D.l_ i) (Γ.set i (some (.fz (.exc x.C x.ns x.xs))))
def xu (K:PySem.W.Frag) (C₀:Addr) (i:Nat) (b3:(XD→G→Prop)→TS3) (s3:TS3) (D:E3) (Γ:G):Prop:=b3 (wt K C₀ i s3 D) D Γ
section
variable {K:PySem.W.Frag} {B:Bs} {F F0:Hp} {σ:L2.St} {H:Hp} {Γ:G} {C₀:Addr} {i:Nat}
theorem En.gone (e:En K B F σ H Γ) (hi:aZ Γ i):En K B F (σ.set i none) H (Γ.set i none):=by
 have e1:=e.forget hi
 have il:=iy hi
 have ne:∀ {j:Nat} {s:Sl},(Γ.set i none)[j]?=some (some s)→(σ.set i none)[j]?=σ[j]?:=fun {j s} q=>by
  by_cases z:j=i
  ·subst z;rw[aB il] at q;cases q
  ·exact bL (Ne.symm z)
 have nh:∀ {j:Nat} {d:D},Hld (Γ.set i none) j d→(σ.set i none)[j]?=σ[j]?:=fun q=>q.elim ne ne
 refine⟨e1.sub,by rw[List.length_set];exact e1.len,fun j d q=>by rw[ne q];exact e1.fz j d q,fun j d q=>by rw[nh q];exact e1.hl j d q,fun j d p q a=>e1.ow j d p q (by rw[← ne q];exact a),fun j d p q a=>e1.ln j d p q (by rw[← ne q];exact a),
  fun j k d d' p q1 q2 a1 a2=>e1.dis j k d d' p q1 q2 (by rw[← nh q1];exact a1) (by rw[← nh q2];exact a2),fun j p q=>?_,e1.keep,e1.new,e1.rest,e1.dom⟩
 obtain⟨a,d,b⟩:=e1.par j p q
 exact⟨by rw[ne b];exact a,d,b⟩
theorem iJ.l_ {D:Ends} {D3:E3} (k:iJ K B F D D3):iJ K B F (D.l_ i) (D3.l_ i) where
 nx:=fun F' σ' H' Γ' s e q=>k.nx F' _ H' _ s (e.gone q.1) q.2
 rt:=fun F' σ' H' Γ' v r s e rv q=>k.rt F' σ' H' Γ' v r s e rv q
 bk:=fun F' σ' H' Γ' s e q=>k.bk F' _ H' _ s (e.gone q.1) q.2
 ct:=fun F' σ' H' Γ' s e q=>k.ct F' _ H' _ s (e.gone q.1) q.2
theorem uG {tb:(L2.St→XK)→TS} {b3:(XD→G→Prop)→TS3} {ts:TS} {s3:TS3} (hb:∀ F1 E W,XR K B F1 E W→lr K B F1 (tb E) (b3 W)) (hs:lr K B F0 ts s3):lr K B F0 (xx K C₀ i tb ts) (xu K C₀ i b3 s3):=by
 intro F σ H Γ D D3 w e k q
 refine hb F (uo K C₀ i ts D) (wt K C₀ i s3 D3) (fun F' σ' H' Γ' cls dx x s e' r q'=>?_) F σ H Γ D D3 (aC.refl F) e k q
 obtain⟨hm,hf,q'⟩:=q'
 obtain⟨rfl,d,gs,rfl,hd,hn,hr⟩:=r
 refine⟨x.C,rfl,hm,fun a ha=>?_⟩
 have hF:F' a=none:=by
  cases z:F' a with
  | none=>rfl
  | some o=>rw[e'.sub a o z] at ha;cases ha
 have e2:=e'.alloc ha (iI a (.ref x.C) (some d))
 have e3:=e2.freeze hF ax (e'.dom a ha) (e'.oB ha)
 have s2:=aU (o:=iI a (.ref x.C) (some d)) hF
 have da:d≠a:=fun z=>by rw[z,hF] at hd;cases hd
 have rv:e9 K B (upd F' a (iI a (.ref x.C) (some d))) σ' (upd H' a (iI a (.ref x.C) (some d))) Γ' (.ref a) (.fz (.exc x.C x.ns x.xs)):=by
  show Rep K _ (.exc x.C x.ns x.xs) _
  rw[Rep]
  exact⟨a,d,gs,rfl,ax,by rw[ag da];exact hd,hn,hr.mono s2⟩
 have e4:=e3.set hf rv
 exact hs _ _ _ _ _ _ ((w.trans s).trans s2) e4 ((k.mono (s.trans s2)).l_) q'
end
section
variable {K:PySem.W.Frag} {X:Cx} {B:Bs} {F0:Hp} {x nm:Str} {i:Nat} {C₀ L:Addr} {body suite:List Stmt} {b₀:Stmt} {np hpos pos:Pos} {tb:(L2.St→XK)→TS} {b3:(XD→G→Prop)→TS3} {ts:TS} {s3:TS3}
theorem xp (hK:X.K=K) (c:t_ X.K C₀) (hst:X.stack=X.env::X.outer) (hfr:X.env.frame=some L) (hg:Gl X x) (hm:X.mg x=some (.ref C₀)) (hN:X.N.Nodup) (hi:X.N[i]?=some nm) (hk:X.env.kindOf nm=some .local)
  (hb:∀ pins F1 E W,XR K B F1 E W→iH K ((X.gM pins).e_ (XP (X.gM pins) E)) B F1 body (tb E) (b3 W))
  (hs:∀ pins e,iH K ((X.gM pins).sui e) B F0 (b₀::suite) ts s3) (hdb:(x == ("__debug__":Str))=false:=by decide) :
  nK K X B F0 (.Try body [.ExceptHandler (some (.Name x np)) (some nm) (b₀::suite) hpos] [] [] pos) (xx K C₀ i tb ts) (xu K C₀ i b3 s3):=by
 subst hK
 exact⟨xX c hst hfr hg hm hN hi hk (fun pins E=>(hb pins F0 E (fun _ _=>False) (fun _ _ _ _ _ _ _ _ _ _ q=>q.elim)).pe) (fun pins e=>(hs pins e).pe) hdb,uG (fun F1 E W xr=>(hb [] F1 E W xr).rf) (hs [] 0).rf⟩
end
end L3
namespace L3
open PySem L2 PySem.Spec PyProof.Rows
section
variable {K:PySem.W.Frag} {X:Cx} {a:Expr} {ta:TE} {a3:TB3} {pos:Pos}
def qX (P:Addr→Prop) (f:Str) (x:D) (Γ:G) (Q:RV→G→Prop):Prop:=match x with
 | .exc C ns xs=>P C∧∃ d,(ns.zip xs).lookup f=some d∧Q (.fz d) Γ
 | _=>False
theorem vc {f:Str} {P:Addr→Prop} (hK:X.K=K) (ha:P3B K X a ta a3) (hC:∀ C,P C→t9 K C∧cf K C f) (hb:attributeBase a f X.env (eval a X.env)=eval a X.env) :
  P3 K X (.Attribute a f pos) (wu K ta f) (qm (qX P f) a3):=⟨by subst hK;exact uX ha.pe hb,oa (r:=fun x H1 Q=>∃ e C d fs v,x=.ref e∧H1 e=some (iI e (.ref C) (some d))∧H1 d=some (XdO d fs)∧t9 K C∧cf K C f∧fs.lookup f=some v∧Q v H1) (ta:=ta) (by
 intro B F σ H Γ x dx Q QQ e rx q k
 unfold qX at q
 split at q
 ·obtain⟨hP,d,hd,q⟩:=q
  obtain⟨p,dd,gs,rfl,h1,h0,h2,h3⟩:=rx
  obtain⟨v,hv,r⟩:=au.lookup h2 h3 hd
  obtain⟨c1,c2⟩:=hC _ hP
  exact⟨p,_,dd,gs,v,rfl,e.sub _ _ h1,e.sub _ _ h0,c1,c2,hv,k _ _ (dk e r q)⟩
 ·exact q.elim) ha.rf⟩
def dvv:D→Option Value
 | .adr a=>some (.ref a)
 | .ty n=>some (.type n)
 | _=>none
def yS (K:PySem.W.Frag) (P:Addr→Prop) (ds:List D) (Γ:G) (Q:RV→G→Prop):Prop:=match ds with
 | [.exc C ns xs,c]=>P C∧∃ u b,dvv c=some u∧PySem.W.kitOne K (.ref C) u=some b∧Q (.fz (.bl b)) Γ
 | _=>False
theorem xf {P:Addr→Prop} (hK:X.K=K) (hC:∀ C,P C→XIs K C):B3 K X (.builtin "isinstance") (fun xs H Q=>∃ e C d fs c b,xs=[.ref e,c]∧H e=some (iI e (.ref C) (some d))∧H d=some (XdO d fs)∧XIs K C∧isC c=true∧PySem.W.kitOne K (.ref C) (vv c)=some b∧Q (.bl b) H) (yS K P):=⟨by subst hK;exact tQ,by
 intro B F σ H Γ vs ds Q QQ e r q k
 unfold yS at q
 split at q
 ·obtain⟨v,w,rfl,h1,h2⟩:=r.two
  obtain⟨hP,u,b,hu,hk,q⟩:=q
  obtain⟨p,dd,gs,rfl,g1,g0,g2,g3⟩:=h1
  rename_i c
  have hw:isC w=true∧vv w=u:=by
   cases c with
   | adr a=>cases h2;cases hu;exact⟨rfl,rfl⟩
   | ty n=>cases h2;cases hu;exact⟨rfl,rfl⟩
   | _=>cases hu
  exact⟨p,_,dd,gs,w,b,rfl,e.sub _ _ g1,e.sub _ _ g0,hC _ hP,hw.1,by rw[hw.2];exact hk,k _ _ (ij e q)⟩
 ·exact q.elim⟩
def DA (K:PySem.W.Frag) (P:Addr→Prop) (ds:List D) (Γ:G) (Q:RV→G→Prop):Prop:=match ds with
 | [.exc C ns xs,.tup cs]=>P C∧∃ us b,cs.mapM dvv=some us∧PySem.W.kitAny K (.ref C) us=some b∧Q (.fz (.bl b)) Γ
 | _=>False
end
end L3
namespace L2
open PySem PySem.Spec PyProof.Rows
section
variable {X:Cx}
def Aq:V→List V→Hp→VK→Prop:=fun x vs H Q=>∃ z y,x=.str z∧vs=[.str y]∧z.length≤sizeLine∧Q (.str (Txt.removeprefix z y)) H
theorem yA:MtR X "str.removeprefix" Aq:=by
 intro pins s σ H x vs v us Q I rx rv h
 obtain⟨z,y,rfl,rfl,hz,q⟩:=h
 obtain⟨t,rfl⟩:=rx
 obtain⟨u,rfl,ru⟩:=rv.one
 obtain⟨t',rfl⟩:=ru
 exact SC.removeprefix (fun t' k=>⟨.str _,H,I.tok _,⟨_,rfl⟩,q⟩) hz
theorem kC:∀ (zs:List Str) (k:Nat),Vals (zs.map V.str) (strsFrom k zs)
 | [],_=>.nil
 | z::zs,k=>.cons ⟨_,rfl⟩ (kC zs (k + 1))
def rQ:V→List V→Hp→VK→Prop:=fun x vs H Q=>∃ z y,x=.str z∧vs=[.str y]∧(y.length == 0)=false∧z.length≤sizeLine∧(Txt.split z y).length≤sizeLine∧∀ l,H l=none→Q (.ref l) (upd H l (.lst ((Txt.split z y).map V.str)))
theorem sI:MtR X "str.split" rQ:=by
 intro pins s σ H x vs v us Q I rx rv h
 obtain⟨z,y,rfl,rfl,hy,hz,hn,q⟩:=h
 obtain⟨t,rfl⟩:=rx
 obtain⟨u,rfl,ru⟩:=rv.one
 obtain⟨t',rfl⟩:=ru
 have fin:∀ (its:List Value) (k:Nat),Vals ((Txt.split z y).map V.str) its→EP X pins σ Q (.ref s.heap.objs.size) { s with heap:=s.heap.push { cls:=.type "list",data:=.seq its.toArray },toks:=k }:=fun its k r=>
  ⟨.ref s.heap.objs.size,_,I.AS r (by rw[List.length_map];exact hn),rfl,q _ I.fresh⟩
 have one:Txt.split z y=[z]→EP X pins σ Q (.ref s.heap.objs.size) { s with heap:=s.heap.push { cls:=.type "list",data:=.seq #[.str z t] } }:=fun e=>fin [.str z t] s.toks (by rw[e];exact .cons ⟨_,rfl⟩ .nil)
 cases c1:(decide (z.length < y.length) || decide (Builtin.Str.strKind z < Builtin.Str.strKind y))
 ·cases c2:(Builtin.Str.occurrences z y 0 z.length (z.length + 1)).isEmpty
  ·have e:Txt.split z y=Builtin.Str.partsBetween z (Builtin.Str.occurrences z y 0 z.length (z.length + 1)) y.length:=by
    unfold Txt.split
    rw[c1,c2];rfl
   rw[e] at hn
   refine call_meets F.slot_str_split (typeIs_str _ _ _) F.entry_str_split (F.args_str_split_2 _ _) (meets_str_split_sep z y t t' c1 hy c2 hz hn) ?_
   exact fin _ _ (by rw[e];exact kC _ _)
  ·refine call_meets F.slot_str_split (typeIs_str _ _ _) F.entry_str_split (F.args_str_split_2 _ _) (meets_str_split_not_found z y t t' c1 hy c2) ?_
   exact one (by unfold Txt.split;rw[c1,c2];rfl)
 ·refine call_meets F.slot_str_split (typeIs_str _ _ _) F.entry_str_split (F.args_str_split_2 _ _) (meets_str_split_cannot_occur z y t t' c1) ?_
  exact one (by unfold Txt.split;rw[c1];rfl)
theorem pB:∀ {zs:List Str} {us:List Value},Vals (zs.map V.str) us→∃ l:List (Str×Tok),us=strValues l∧l.map (·.1)=zs
 | [],_,.nil=>⟨[],rfl,rfl⟩
 | z::zs,_,.cons ⟨t,e⟩ r=>by
  obtain⟨l,rfl,h⟩:=pB r
  subst e
  exact⟨(z,t)::l,rfl,by rw[List.map_cons,h]⟩
def rJoin (K:PySem.W.Frag):V→List V→Hp→VK→Prop:=fun x vs H Q=>∃ z p zs,x=.str z∧vs=[.ref p]∧SqL K H p (zs.map V.str)∧JoinOk z zs=true∧Q (.str (Txt.join z zs)) H
theorem vw:MtR X "str.join" (rJoin X.K):=by
 intro pins s σ H x vs v us Q I rx rv h
 obtain⟨z,p,zs,rfl,rfl,hp,hz,q⟩:=h
 obtain⟨t,rfl⟩:=rx
 obtain⟨u,rfl,ru⟩:=rv.one
 cases ru
 obtain⟨its,r,pl,_⟩:=I.list hp
 obtain⟨l,rfl,hl⟩:=pB r
 exact SC.join pl.isList hl hz fun t' k=>⟨.str _,H,I.tok _,⟨_,rfl⟩,q⟩
theorem qO:bQ X (.type "int") (fun xs H Q=>∃ z n,xs=[.str z]∧PySem.intText? z=some n∧z.length≤640∧Q (.int n) H):=by
 intro pins s σ H xs us Q I r h
 obtain⟨z,n,rfl,hn,hl,q⟩:=h
 obtain⟨u,rfl,ru⟩:=vals1 r
 obtain⟨t,rfl⟩:=ru
 exact PySem.W.KIN.call_text hn hl ⟨.int n,H,I.tok _,⟨_,rfl⟩,q⟩
theorem tV:bQ X (.builtin "isinstance") (fun xs H Q=>∃ x c t b,xs=[x,c]∧gy X.K H x t∧isC c=true∧PySem.W.kitOne X.K t (vv c)=some b∧Q (.bl b) H):=by
 intro pins s σ H xs us Q I r h
 obtain⟨x,c,t,b,rfl,ty,ic,k,q⟩:=h
 obtain⟨u,w',rfl,ru,rw'⟩:=vals2 r
 obtain rfl:=wq ic rw'
 exact kR I ru ty k fun tk=>⟨.bl b,H,I.tok _,rfl,q⟩
theorem uS {body:List Stmt} {h₀:ExceptHandler} {hs:List ExceptHandler} {pos:Pos} {tb:TS} (hb:PSs (X.e_ fun _ _=>False) body tb):PS X (.Try body (h₀::hs) [] [] pos) tb:=by
 intro pins s σ H D I h
 refine wpAny_Try_except (wpAny_mono (hb pins s σ H D (I.e_ _) h) (fun f s1 q=>?_) fun ev s1 q=>q.elim)
 cases f with
 | next=>
  obtain⟨σ',H',I',q⟩:=q
  exact wpAny_execs_nil ⟨σ',H',I'.bZ,q⟩
 | brk=>
  obtain⟨σ',H',I',q⟩:=q
  exact⟨σ',H',I'.bZ,q⟩
 | cont=>
  obtain⟨σ',H',I',q⟩:=q
  exact⟨σ',H',I'.bZ,q⟩
 | ret u=>
  obtain⟨v,σ',H',I',r,q⟩:=q
  exact⟨v,σ',H',I'.bZ,r,q⟩
end
end L2
namespace L3
open PySem L2
section
variable {K:PySem.W.Frag} {B:Bs} {F:Hp} {σ:L2.St} {H:Hp} {Γ:G} {X:Cx} {a b o e:Expr} {to te ta:TE} {e3 o3 a3:TE3} {b3:TB3} {pos apos cpos:Pos}
theorem au.mF:∀ {zs:List Str} {vs:List V},au K F (zs.map D.str) vs→vs=zs.map V.str
 | [],_,h=>h
 | z::zs,_,⟨v,ws,h1,h2,h3⟩=>by
  rw[h1,au.mF h3]
  have:v=.str z:=h2
  rw[this];rfl
def Ax (o3 e3:TE3) (Γ:G) (Q:RV→G→Prop):Prop:=o3 Γ fun x Γ1=>oSt x.d (fun z=>e3 Γ1 fun r Γ2=>oSt r.d (fun y=>z.length≤sizeLine∧Q (.fz (.str (Txt.removeprefix z y))) Γ2) ⟨⟩) ⟨⟩
def z8 (o3 e3:TE3) (Γ:G) (Q:RV→G→Prop):Prop:=o3 Γ fun x Γ1=>oSt x.d (fun z=>e3 Γ1 fun r Γ2=>oSt r.d (fun y=>((y.length == 0)=false∧z.length≤sizeLine∧(Txt.split z y).length≤sizeLine)∧Q (.fr (.lst ((Txt.split z y).map .str))) Γ2) ⟨⟩) ⟨⟩
def wK (o3:TE3) (b3:TB3) (Γ:G) (Q:RV→G→Prop):Prop:=o3 Γ fun x Γ1=>oSt x.d (fun z=>b3 Γ1 fun r Γ2=>∃ zs:List Str,r.at Γ2=some (.lst (zs.map .str))∧JoinOk z zs=true∧Q (.fz (.str (Txt.join z zs))) Γ2) ⟨⟩
theorem oA {d:D} {k:Str→Prop} {t:Tag k} (h:oSt d k t):∃ z,d=.str z∧k z:=wC h
theorem rJ {r:V→List V→Hp→VK→Prop} {o3 e3:TE3} {P:Str→Str→(RV→G→Prop)→G→Prop} (ho:Ref K to o3) (he:Ref K te e3)
  (h:∀ (B:Bs) (F:Hp) (σ:L2.St) (H:Hp) (Γ:G) (z y:Str) (Q:RV→G→Prop) (QQ:VK),En K B F σ H Γ→P z y Q Γ→(∀ v H',Po K B F σ Q v H'→QQ v H')→r (.str z) [.str y] H QQ) :
  Ref K (tBM K "str" r to (hX te jS)) fun Γ Q=>o3 Γ fun x Γ1=>oSt x.d (fun z=>e3 Γ1 fun r Γ2=>oSt r.d (fun y=>P z y Q Γ2) ⟨⟩) ⟨⟩:=by
 intro B F σ H Γ Q QQ en q k
 refine ho B F σ H Γ _ _ en q fun x H1 ⟨F1,Γ1,r1,s1,e1,rv1,q1⟩=>?_
 obtain⟨z,hz,q1⟩:=oA q1
 obtain⟨F2,s2,e2,rp⟩:=e1.frozen rv1
 rw[hz] at rp
 cases rp
 refine⟨rfl,he B F2 σ H1 Γ1 _ _ e2 q1 fun v H' ⟨F3,Γ3,r,s3,e3,rv,q3⟩=>?_⟩
 obtain⟨y,hy,q3⟩:=oA q3
 obtain⟨F4,s4,e4,rp⟩:=e3.frozen rv
 rw[hy] at rp
 cases rp
 exact h B F4 σ H' Γ3 z y Q QQ e4 q3 fun v H' p=>k v H' (Po.mono (s1.trans (s2.trans (s3.trans s4))) p)
section
variable (hbase:∀ m:Str,m="removeprefix"∨m="split"∨m="join"→True)
theorem yi (hK:X.K=K) (ho:P3 K X o to o3) (he:P3 K X e te e3) (hbase:attributeBase o "removeprefix" X.env (eval o X.env)=eval o X.env:=by rfl)
  (hfew:((backTo cpos (starEach [e] X.env)).all (fun x=>!x.1) && (backToKw cpos (keywordEach [] X.env)).all (fun x=>x.1.isSome)
   && decide ([e].length + ([]:List Keyword).length + (if ([]:List Keyword).isEmpty then 0 else 1) < 30))=true:=by rfl)
  (hline:(apos.endLine == cpos.line)=true:=by rfl) (hs:starEach [e] X.env=(false,eval e X.env)::starEach [] X.env:=by rfl) (hplain:(backTo cpos (starEach [] X.env)).any (·.1)=false:=by rfl) :
  P3 K X (.Call (.Attribute o "removeprefix" apos) [e] [] cpos) (tBM K "str" Aq to (hX te jS)) (Ax o3 e3):=
 ⟨by subst hK;exact pM PySem.F.plainAttrs_str PySem.F.slot_str_removeprefix PySem.F.type_str_removeprefix yA ho.pe (cJ he.pe fm hs) hbase hfew hline hs hplain,
  rJ (P:=fun z y Q Γ=>z.length≤sizeLine∧Q (.fz (.str (Txt.removeprefix z y))) Γ) ho.rf he.rf fun B F σ H Γ z y Q QQ e q k=>⟨z,y,rfl,rfl,q.1,k _ _ (gL e q.2)⟩⟩
theorem mT (hK:X.K=K) (ho:P3 K X o to o3) (he:P3 K X e te e3) (hbase:attributeBase o "split" X.env (eval o X.env)=eval o X.env:=by rfl)
  (hfew:((backTo cpos (starEach [e] X.env)).all (fun x=>!x.1) && (backToKw cpos (keywordEach [] X.env)).all (fun x=>x.1.isSome)
   && decide ([e].length + ([]:List Keyword).length + (if ([]:List Keyword).isEmpty then 0 else 1) < 30))=true:=by rfl)
  (hline:(apos.endLine == cpos.line)=true:=by rfl) (hs:starEach [e] X.env=(false,eval e X.env)::starEach [] X.env:=by rfl) (hplain:(backTo cpos (starEach [] X.env)).any (·.1)=false:=by rfl) :
  P3 K X (.Call (.Attribute o "split" apos) [e] [] cpos) (tBM K "str" rQ to (hX te jS)) (z8 o3 e3):=
 ⟨by subst hK;exact pM PySem.F.plainAttrs_str PySem.F.slot_str_split PySem.F.type_str_split sI ho.pe (cJ he.pe fm hs) hbase hfew hline hs hplain,
  rJ (P:=fun z y Q Γ=>((y.length == 0)=false∧z.length≤sizeLine∧(Txt.split z y).length≤sizeLine)∧Q (.fr (.lst ((Txt.split z y).map .str))) Γ) ho.rf he.rf fun B F σ H Γ z y Q QQ e q k=>
   ⟨z,y,rfl,rfl,q.1.1,q.1.2.1,q.1.2.2,fun l hl=>k _ _ (ig e hl (au.strs _) q.2)⟩⟩
theorem lR (hK:X.K=K) (ho:P3 K X o to o3) (he:P3B K X e te b3) (hbase:attributeBase o "join" X.env (eval o X.env)=eval o X.env:=by rfl)
  (hfew:((backTo cpos (starEach [e] X.env)).all (fun x=>!x.1) && (backToKw cpos (keywordEach [] X.env)).all (fun x=>x.1.isSome)
   && decide ([e].length + ([]:List Keyword).length + (if ([]:List Keyword).isEmpty then 0 else 1) < 30))=true:=by rfl)
  (hline:(apos.endLine == cpos.line)=true:=by rfl) (hs:starEach [e] X.env=(false,eval e X.env)::starEach [] X.env:=by rfl) (hplain:(backTo cpos (starEach [] X.env)).any (·.1)=false:=by rfl) :
  P3 K X (.Call (.Attribute o "join" apos) [e] [] cpos) (tBM K "str" (rJoin K) to (hX te jS)) (wK o3 b3):=
 ⟨by subst hK;exact pM PySem.F.plainAttrs_str PySem.F.slot_str_join PySem.F.type_str_join vw ho.pe (cJ he.pe fm hs) hbase hfew hline hs hplain,fun B F σ H Γ Q QQ en q k=>by
  refine ho.rf B F σ H Γ _ _ en q fun x H1 ⟨F1,Γ1,r1,s1,e1,rv1,q1⟩=>?_
  obtain⟨z,hz,q1⟩:=oA q1
  obtain⟨F2,s2,e2,rp⟩:=e1.frozen rv1
  rw[hz] at rp
  cases rp
  refine⟨rfl,he.rf B F2 σ H1 Γ1 _ _ e2 q1 fun v H' ⟨F3,Γ3,bo,s3,e3,rb,zs,hzs,hj,q3⟩=>?_⟩
  obtain⟨p,vs,rfl,h1,h2⟩:=e3.bo rb hzs
  cases au.mF h2
  exact⟨z,p,zs,rfl,rfl,SqL.of h1,hj,k _ _ (Po.mono (s1.trans (s2.trans s3)) (gL e3 q3))⟩⟩
end
def s_ (ds:List D) (Γ:G) (Q:RV→G→Prop):Prop:=match ds with
 | [.str z]=>∃ n,(PySem.intText? z=some n∧z.length≤640)∧Q (.fz (.int n)) Γ
 | _=>False
theorem zv:B3 K X (.type "int") (fun xs H Q=>∃ z n,xs=[.str z]∧PySem.intText? z=some n∧z.length≤640∧Q (.int n) H) s_:=⟨qO,by
 intro B F σ H Γ vs ds Q QQ e r q k
 unfold s_ at q
 split at q
 ·obtain⟨v,rfl,h⟩:=r.one
  obtain⟨n,hn,q⟩:=q
  cases h
  exact⟨_,n,rfl,hn.1,hn.2,k _ _ (cM e q)⟩
 ·exact q.elim⟩
def itx (i:Int):Str:=Str.ofString (toString i)
def xG (ds:List D) (Γ:G) (Q:RV→G→Prop):Prop:=match ds with
 | [.int i]=>i.natAbs < 10 ^ 60∧Q (.fz (.str (itx i))) Γ
 | _=>False
theorem zu:B3 K X (.type "str") (fun xs H Q=>∃ i,xs=[.int i]∧i.natAbs.log2 < 1920∧Q (.str (toString i)) H) xG:=⟨mq,by
 intro B F σ H Γ vs ds Q QQ e r q k
 unfold xG at q
 split at q
 ·obtain⟨v,rfl,h⟩:=r.one
  cases h
  exact⟨_,rfl,of_decide_eq_true (sZ q.1),k _ _ (gL e q.2)⟩
 ·exact q.elim⟩
def inT (i j:Str):Bool:=!(Builtin.Str.occurrences j i 0 j.length 1).isEmpty
def yX (x y:D) (Γ:G) (Q:RV→G→Prop):Prop:=match x,y with
 | .str i,.str j=>Q (.fz (.bl (inT i j))) Γ
 | _,_=>False
theorem zw:C3 K X .In (fun x y H Q=>∃ i j,x=.str i∧y=.str j∧Q (.bl (!(Builtin.Str.occurrences j i 0 j.length 1).isEmpty)) H) yX:=⟨qz,by
 intro B F σ H Γ x y dx dy Q QQ e rx ry q k
 unfold yX at q
 split at q
 ·cases rx;cases ry
  exact⟨_,_,rfl,rfl,k _ _ (ij e q)⟩
 ·exact q.elim⟩
def isN:D→Bool
 | .non=>true | _=>false
def AX (neg:Bool) (x y:D) (Γ:G) (Q:RV→G→Prop):Prop:=y=.non∧Q (.fz (.bl (neg ^^ isN x))) Γ
theorem yU {d:D} {v:V} (h:dj K F H d v):decide (v=.non)=isN d:=by
 cases d <;> first
  | (cases h;rfl)
  | (obtain⟨p,vs,rfl,_⟩:=h;rfl)
  | (obtain⟨p,rfl,_⟩:=h;rfl)
  | (obtain⟨rfl,_⟩:=h;rfl)
  | (obtain⟨p,dx,gs,rfl,_⟩:=h;rfl)
theorem v5:C3 K X .IsNot (fun x y H Q=>y=.non∧Q (.bl (!decide (x=.non))) H) (AX true):=⟨vi,fun B F σ H Γ x y dx dy Q QQ e rx ry q k=>by
 obtain⟨rfl,q⟩:=q
 cases ry
 rw[yU rx]
 exact⟨rfl,k _ _ (ij e (by simpa using q))⟩⟩
theorem uT (e:En K B F σ H Γ) {Q:RV→G→Prop} {l:Addr} (hl:H l=none) (q:Q (.fz .dct) Γ):Po K B F σ Q (.ref l) (upd H l (.dK [])):=
 ⟨upd F l (.dK []),Γ,.fz .dct,aU (e.nof hl),(e.alloc hl _).freeze (e.nof hl) ax (e.dom _ hl) (e.oB hl),⟨l,rfl,ax⟩,q⟩
theorem yj:P3 K X (.Dict [] [] pos) rz (t3C .dct):=⟨r9,fun B F σ H Γ Q QQ e q k=>fun p hp=>k _ _ (uT e hp q)⟩
theorem ir {x:Str} {C:Addr} (hg:Gl X x) (hm:X.mg x=some (.ref C)) (hd:(x == ("__debug__":Str))=false:=by decide):P3 K X (.Name x pos) (tC (.ref C)) (t3C (.adr C)):=
 ⟨lQ hg hm rfl hd,fun B F σ H Γ Q QQ e q k=>k _ _ (dk (d:=.adr C) e rfl q)⟩
structure xk (K:PySem.W.Frag) (C:Addr):Prop where
 cl:Cls K C
 ha:PySem.W.findIn K (.ref C) "__class__"=some (some (.builtin "object.__class__"))
 hn:PySem.W.specialIn K (.builtin "object.__class__") "__get__"=some (some (.builtin "getset_descriptor.__get__"))
 ht:PySem.W.takesIn K (.builtin "object.__class__")=some true
 hm:PySem.W.mroIn K C (.type "object")=some true
 o:PySem.W.kitOne K (.ref C) (.ref C)=some true
 b:PySem.W.kitOne K (.type "bool") (.ref C)=some false
 i:PySem.W.kitOne K (.type "int") (.ref C)=some false
 n:PySem.W.kitOne K (.type "NoneType") (.ref C)=some false
 s:PySem.W.kitOne K (.type "str") (.ref C)=some false
 l:PySem.W.kitOne K (.type "list") (.ref C)=some false
 t:PySem.W.kitOne K (.type "tuple") (.ref C)=some false
 d:PySem.W.kitOne K (.type "dict") (.ref C)=some false
def oo (C:Addr):D→Option Bool
 | .ins C' _ _=>if C'=C then some true else none
 | d=>if knD d=true then some false else none
theorem vg {C:Addr} {d:D} (h:knD d=true):oo C d=some false:=by
 cases d <;> first | rfl | cases h
theorem mV {C:Addr} {ns:List Str} {xs:List D}:oo C (.ins C ns xs)=some true:=by simp [oo]
def yT (C:Addr) (ds:List D) (Γ:G) (Q:RV→G→Prop):Prop:=match ds with
 | [d,.adr C']=>C'=C∧∃ b,oo C d=some b∧Q (.fz (.bl b)) Γ
 | _=>False
theorem t5 {C:Addr} (hK:X.K=K) (c:xk K C):B3 K X (.builtin "isinstance") (fun xs H Q=>∃ x c t b,xs=[x,c]∧gy K H x t∧isC c=true∧PySem.W.kitOne K t (vv c)=some b∧Q (.bl b) H) (yT C):=⟨by subst hK;exact tV,by
 intro B F σ H Γ vs ds Q QQ e r q k
 unfold yT at q
 split at q
 ·rename_i d C'
  obtain⟨rfl,b,hb,q⟩:=q
  obtain⟨v,w,rfl,h1,h2⟩:=r.two
  cases h2
  have go:∃ t,gy K H v t∧PySem.W.kitOne K t (.ref C')=some b:=by
   by_cases hk:knD d=true
   ·rw[vg hk] at hb
    cases hb
    cases sW e.sub h1 hk with
    | non=>exact⟨_,.non,c.n⟩
    | bl x=>exact⟨_,.bl x,c.b⟩
    | int x=>exact⟨_,.int x,c.i⟩
    | str x=>exact⟨_,.str x,c.s⟩
    | lst x=>exact⟨_,.lst x,c.l⟩
    | tup x=>exact⟨_,.tup x,c.t⟩
    | dK x=>exact⟨_,.dK x,c.d⟩
   ·cases d with
    | ins C0 ns xs=>
     have hb':(if C0=C' then some true else none)=some b:=hb
     by_cases z:C0=C'
     ·rw[if_pos z] at hb'
      cases hb'
      subst z
      obtain⟨p,dx,gs,rfl,g,_⟩:=h1
      exact⟨_,.ins g c.cl c.ha c.hn c.ht c.hm,c.o⟩
     ·rw[if_neg z] at hb';cases hb'
    | _=>first | exact absurd rfl hk | cases hb
  obtain⟨t,ty,kk⟩:=go
  exact⟨v,_,t,b,rfl,ty,rfl,kk,k _ _ (ij e q)⟩
 ·exact q.elim⟩
end
section
variable {K:PySem.W.Frag} {X:Cx} {c:Expr} {body:List Stmt} {tc:TT} {A3:TT3} {tb:TS} {b3:TS3} {pos:Pos}
def nR (A3:TT3) (b3:TS3) (D:E3) (Γ:G):Prop:=∃ W:Nat→G→Prop,(∃ m,W m Γ)∧∀ m Γ,W m Γ→A3 Γ fun b Γ1=>match b with
 | true=>b3 { D with nx:=fun Γ'=>∃ m',m' < m∧W m' Γ',ct:=fun Γ'=>∃ m',m' < m∧W m' Γ',bk:=D.nx } Γ1
 | false=>D.nx Γ1
theorem rC (hp:PassesOwn (model X.prog X.w) X.A X.env X.xe) (hc:P3T K X c tc A3) (hb:jA K X body tb b3):P3S K X (.While c body [] pos) (rm tc tb) (nR A3 b3):=⟨rV hp hc.pe hb.pe,fun B F σ H Γ D D3 e k q=>by
 obtain⟨W,⟨m0,w0⟩,turn⟩:=q
 refine⟨fun m σ H=>∃ F' Γ',aC F F'∧En K B F' σ H Γ'∧W m Γ',⟨m0,F,Γ,aC.refl F,e,w0⟩,?_⟩
 rintro m σ1 H1 ⟨F1,Γ1,s1,e1,w1⟩
 refine hc.rf B F1 σ1 H1 Γ1 _ _ e1 (turn m Γ1 w1) fun b H2 ⟨F2,Γ2,s2,e2,q2⟩=>?_
 have s12:=s1.trans s2
 cases b with
 | true=>
  rw[if_pos rfl]
  refine⟨fun σ' H'=>∃ m',m' < m∧∃ F' Γ',aC F F'∧En K B F' σ' H' Γ'∧W m' Γ',fun σ' H' h=>h,?_⟩
  exact hb.rf B F2 σ1 H2 Γ2 _ { D3 with nx:=fun Γ'=>∃ m',m' < m∧W m' Γ',ct:=fun Γ'=>∃ m',m' < m∧W m' Γ',bk:=D3.nx } e2
   ⟨fun F' σ' H' Γ' s e ⟨m',h1,h2⟩=>⟨m',h1,F',Γ',s12.trans s,e,h2⟩,fun F' σ' H' Γ' v r s e rv q=>k.rt F' σ' H' Γ' v r (s12.trans s) e rv q,fun F' σ' H' Γ' s e q=>k.nx F' σ' H' Γ' (s12.trans s) e q,fun F' σ' H' Γ' s e ⟨m',h1,h2⟩=>⟨m',h1,F',Γ',s12.trans s,e,h2⟩⟩ q2
 | false=>
  rw[if_neg (by decide)]
  exact k.nx F2 σ1 H2 Γ2 s12 e2 q2⟩
def q9 (A3:TT3) (b3:TS3) (D:E3) (Γ:G) (_:Tag D):Prop:=nR A3 b3 D Γ
theorem q_ {D:E3} {Γ:G}:nR A3 b3 D Γ=q9 A3 b3 D Γ ⟨⟩:=rfl
theorem uA {h₀:ExceptHandler} {hs:List ExceptHandler} (hb:jA K (X.e_ fun _ _=>False) body tb b3):P3S K X (.Try body (h₀::hs) [] [] pos) tb b3:=⟨uS hb.pe,hb.rf⟩
end
end L3
namespace L3
open PySem L2
abbrev sg (z:Str):List Nat:=z.cps.toList
theorem lH {x y:Str} (h:sg x=sg y):x=y:=Str.ext' (Array.toList_inj.mp h)
theorem bu (z:Str):(sg z).length=z.length:=Array.length_toList
theorem fh (x y:Str):sg (x++y)=sg x++sg y:=by simp [sg,Str.cps_append]
def jn (sep:List Nat):List (List Nat)→List Nat
 | []=>[]
 | [x]=>x
 | x::y::r=>x++(sep++jn sep (y::r))
theorem jC (sep:Str):∀ ws:List Str,sg (Txt.join sep ws)=jn (sg sep) (ws.map sg):=by
 intro ws
 have e:Txt.join sep ws=Str.join sep ws:=StrLaws.glued_eq_join sep ws
 rw[e]
 induction ws with
 | nil=>rfl
 | cons x r ih=>
  cases r with
  | nil=>rfl
  | cons y r=>
   show sg (x++sep++Str.join sep (y::r))=_
   rw[fh,fh,ih (StrLaws.glued_eq_join sep _),List.append_assoc];rfl
theorem pV {sep:List Nat} {y:List Nat}:∀ {xs:List (List Nat)},xs≠[]→jn sep (xs++[y])=jn sep xs++(sep++y)
 | [],h=>absurd rfl h
 | [x],_=>rfl
 | x::z::r,_=>by
  have:=pV (sep:=sep) (y:=y) (xs:=z::r) (by simp)
  show x++(sep++jn sep (z::r++[y]))=x++(sep++jn sep (z::r))++(sep++y)
  rw[this];simp only[List.append_assoc]
theorem j4 {sep:List Nat} {m:Nat}:∀ {xs:List (List Nat)},(∀ x∈xs,x.length≤m)→(jn sep xs).length≤xs.length * (m + sep.length)
 | [],_=>by simp [jn]
 | [x],h=>by have:=h x (by simp);simp only[jn,List.length_cons,List.length_nil,Nat.zero_add,Nat.one_mul];omega
 | x::y::r,h=>by
  have h1:=h x (by simp)
  have h2:=j4 (sep:=sep) (m:=m) (xs:=y::r) fun z hz=>h z (List.mem_cons_of_mem _ hz)
  simp only[jn,List.length_append,List.length_cons,Nat.add_mul,Nat.one_mul] at h2 ⊢
  omega
def gB (s sub:Str) (hi limit:Nat) (st:Array Nat×Nat) (i:Nat):Array Nat×Nat:=if ((st.1.size < limit∧st.2≤i)∧i + sub.length≤hi)∧Builtin.Str.subAt s sub i=true then (st.1.push i,i + sub.length) else st
theorem wA (s sub:Str) (hi limit:Nat):∀ (l:List Nat) (st:Array Nat×Nat),(forIn l st (StrLaws.occBody s sub hi limit)).run=l.foldl (gB s sub hi limit) st
 | [],st=>rfl
 | i::l,st=>by
  rw[List.forIn_cons,List.foldl_cons,← wA s sub hi limit l]
  unfold gB StrLaws.occBody
  split <;> rfl
theorem sC (s sub:Str):Builtin.Str.occurrences s sub 0 s.length (s.length + 1)=((List.range' 0 (s.length + 1)).foldl (gB s sub s.length (s.length + 1)) (#[],0)).1.toList:=by
 rw[StrLaws.occ_eq,← wA];rfl
theorem skip {s sub:Str} {hi limit:Nat} {st:Array Nat×Nat}:∀ {l:List Nat},(∀ i∈l,¬ (st.2≤i∧i + sub.length≤hi∧Builtin.Str.subAt s sub i=true))→l.foldl (gB s sub hi limit) st=st
 | [],_=>rfl
 | i::l,h=>by
  rw[List.foldl_cons]
  have e:gB s sub hi limit st i=st:=if_neg fun q=>h i (by simp) ⟨q.1.1.2,q.1.2,q.2⟩
  rw[e]
  exact skip fun j hj=>h j (List.mem_cons_of_mem _ hj)
theorem gf {s sub:Str} {i:Nat}:Builtin.Str.subAt s sub i=true↔((sg s).drop i).take sub.length=sg sub:=by
 unfold Builtin.Str.subAt
 rw[StrLaws.beq_toList,beq_iff_eq,Array.toList_extract]
 simp [sg,List.extract]
def i6 (n:Nat) (p:Nat):List (List Nat)→List Nat
 | []=>[]
 | [_]=>[]
 | w::w'::r=>(p + w.length)::i6 n (p + w.length + n) (w'::r)
theorem wD {s sub:Str} {c:Nat} {cs pre w post:List Nat} (hs:sg s=pre++(w++post)) (hc:sg sub=c::cs) (hw:c∉w) {i:Nat} (h1:pre.length≤i) (h2:i < pre.length + w.length):¬ Builtin.Str.subAt s sub i=true:=by
 rw[gf,hc]
 intro q
 have g:((sg s).drop i).take sub.length≠[]:=by rw[q];simp
 have hd:(sg s)[i]?=some c:=by
  have e:(((sg s).drop i).take sub.length)[0]?=some c:=by rw[q];rfl
  rw[List.getElem?_take] at e
  split at e
  ·rw[List.getElem?_drop] at e;simpa using e
  ·cases e
 rw[hs,List.getElem?_append_right h1,List.getElem?_append_left (by omega)] at hd
 exact hw (List.mem_of_getElem? hd)
theorem scan {s sub:Str} {c:Nat} {cs:List Nat} (hc:sg sub=c::cs):∀ (ws:List (List Nat)) (pre:List Nat) (st:Array Nat×Nat),ws≠[]→sg s=pre++jn (sg sub) ws→(∀ w∈ws,c∉w)→st.2≤pre.length→st.1.size≤pre.length→
  ((List.range' pre.length (s.length + 1 - pre.length)).foldl (gB s sub s.length (s.length + 1)) st).1.toList=st.1.toList++i6 sub.length pre.length ws
 | [],_,_,h,_,_,_,_=>absurd rfl h
 | [w],pre,st,_,hs,hw,h1,h2=>by
  have hl:s.length=pre.length + w.length:=by rw[← bu,hs];simp [jn]
  have hn:1≤sub.length:=by rw[← bu,hc];simp
  rw[skip,i6,List.append_nil]
  intro i hi q
  rw[List.mem_range'] at hi
  obtain⟨j,hj,rfl⟩:=hi
  exact wD (pre:=pre) (w:=w) (post:=[]) (by rw[hs];simp [jn]) hc (hw w (by simp)) (by omega) (by omega) q.2.2
 | w::w'::r,pre,st,_,hs,hw,h1,h2=>by
  have hs':sg s=(pre++(w++sg sub))++jn (sg sub) (w'::r):=by rw[hs];simp only[jn,List.append_assoc]
  have hn:sub.length=(sg sub).length:=(bu sub).symm
  have hn1:1≤sub.length:=by rw[hn,hc];simp
  have hl:s.length=pre.length + (w.length + sub.length) + (jn (sg sub) (w'::r)).length:=by rw[← bu,hs'];simp only[List.length_append,hn]
  have pl:(pre++(w++sg sub)).length=pre.length + w.length + sub.length:=by simp only[List.length_append,hn];omega
  have e1:s.length + 1 - pre.length=w.length + (1 + ((sub.length - 1) + (s.length + 1 - (pre.length + w.length + sub.length)))):=by omega
  rw[e1,← List.range'_append_1,List.foldl_append,← List.range'_append_1,List.foldl_append,← List.range'_append_1,List.foldl_append]
  have f1:(List.range' pre.length w.length).foldl (gB s sub s.length (s.length + 1)) st=st:=skip fun i hi q=>by
   rw[List.mem_range'] at hi
   obtain⟨j,hj,rfl⟩:=hi
   exact wD (pre:=pre) (w:=w) (post:=sg sub++jn (sg sub) (w'::r)) (by rw[hs];rfl) hc (hw w (by simp)) (by omega) (by omega) q.2.2
  rw[f1]
  have at1:Builtin.Str.subAt s sub (pre.length + w.length)=true:=by
   rw[gf,hs',← List.append_assoc,List.append_assoc (pre++w),show pre.length + w.length=(pre++w).length by simp,List.drop_left,hn,List.take_left]
  have f2:(List.range' (pre.length + w.length) 1).foldl (gB s sub s.length (s.length + 1)) st=(st.1.push (pre.length + w.length),pre.length + w.length + sub.length):=by
   show gB s sub s.length (s.length + 1) st (pre.length + w.length)=_
   exact if_pos ⟨⟨⟨by omega,by omega⟩,by omega⟩,at1⟩
  rw[f2]
  have f3:(List.range' (pre.length + w.length + 1) (sub.length - 1)).foldl (gB s sub s.length (s.length + 1)) (st.1.push (pre.length + w.length),pre.length + w.length + sub.length)=(st.1.push (pre.length + w.length),pre.length + w.length + sub.length):=skip fun i hi q=>by
   rw[List.mem_range'] at hi
   obtain⟨j,hj,rfl⟩:=hi
   have:=q.1
   simp only at this
   omega
  rw[f3,show pre.length + w.length + 1 + (sub.length - 1)=pre.length + w.length + sub.length by omega]
  have ih:=scan hc (w'::r) (pre++(w++sg sub)) (st.1.push (pre.length + w.length),pre.length + w.length + sub.length) (by simp) hs' (fun z hz=>hw z (List.mem_cons_of_mem _ hz)) (by rw[pl];exact Nat.le_refl _) (by rw[pl,Array.size_push];omega)
  rw[pl] at ih
  rw[ih,i6]
  simp
theorem mS {s:Str} {sep:List Nat}:∀ (ws:List (List Nat)) (pre:List Nat),ws≠[]→sg s=pre++jn sep ws→
  ((pre.length::(i6 sep.length pre.length ws).map (· + sep.length)).zip (i6 sep.length pre.length ws++[s.length])).map (fun x=>sg (Builtin.Str.strSub s x.1 x.2))=ws
 | [],_,h,_=>absurd rfl h
 | [w],pre,_,hs=>by
  have hl:s.length=pre.length + w.length:=by rw[← bu,hs];simp [jn]
  simp only[i6,List.map_nil,List.nil_append,List.zip_cons_cons,List.zip_nil_left,List.map_cons]
  rw[show sg (Builtin.Str.strSub s pre.length s.length)=(sg s).extract pre.length s.length from Array.toList_extract,hs,hl]
  simp [List.extract,jn]
 | w::w'::r,pre,_,hs=>by
  have hs':sg s=(pre++(w++sep))++jn sep (w'::r):=by rw[hs];simp only[jn,List.append_assoc]
  have pl:(pre++(w++sep)).length=pre.length + w.length + sep.length:=by simp only[List.length_append];omega
  have ih:=mS (w'::r) (pre++(w++sep)) (by simp) hs'
  rw[pl] at ih
  simp only[i6,List.map_cons,List.cons_append,List.zip_cons_cons]
  rw[ih]
  congr 1
  rw[show sg (Builtin.Str.strSub s pre.length (pre.length + w.length))=(sg s).extract pre.length (pre.length + w.length) from Array.toList_extract,hs]
  simp [List.extract,jn]
theorem jU {sep:Str} {c:Nat} {cs:List Nat} (hc:sg sep=c::cs) (hk:sep.cps.all (· < 256)=true) {ws:List Str} (h:ws≠[]) (hw:∀ w∈ws,c∉sg w):Txt.split (Txt.join sep ws) sep=ws:=by
 have hs:sg (Txt.join sep ws)=[]++jn (sg sep) (ws.map sg):=jC sep ws
 have hn:ws.map sg≠[]:=by simpa using h
 have hw':∀ w∈ws.map sg,c∉w:=fun w hw2=>by obtain⟨z,hz,rfl⟩:=List.mem_map.mp hw2;exact hw z hz
 have occ:Builtin.Str.occurrences (Txt.join sep ws) sep 0 (Txt.join sep ws).length ((Txt.join sep ws).length + 1)=i6 sep.length 0 (ws.map sg):=by
  rw[sC]
  have:=scan hc (ws.map sg) [] (#[],0) hn hs hw' (Nat.le_refl _) (Nat.le_refl _)
  simpa using this
 have pb:Builtin.Str.partsBetween (Txt.join sep ws) (i6 sep.length 0 (ws.map sg)) sep.length=ws:=by
  have:=mS (s:=Txt.join sep ws) (ws.map sg) [] hn hs
  rw[bu] at this
  have e:(Builtin.Str.partsBetween (Txt.join sep ws) (i6 sep.length 0 (ws.map sg)) sep.length).map sg=ws.map sg:=by
   unfold Builtin.Str.partsBetween
   rw[List.map_map]
   exact this
  exact(List.map_inj_right fun x y q=>lH q).mp e
 have one:∀ w,ws=[w]→Txt.join sep ws=w:=fun w e=>by subst e;rfl
 have two:i6 sep.length 0 (ws.map sg)=[]→∃ w,ws=[w]:=fun e=>by
  match ws,h with
  | [w],_=>exact⟨w,rfl⟩
  | w::w'::r,_=>simp [i6] at e
 unfold Txt.split
 rw[occ]
 split
 ·rename_i q
  rw[Bool.or_eq_true,decide_eq_true_eq,decide_eq_true_eq] at q
  have:∃ w,ws=[w]:=by
   match ws,h with
   | [w],_=>exact⟨w,rfl⟩
   | w::w'::r,_=>
    exfalso
    have len:sep.length≤(Txt.join sep (w::w'::r)).length:=by
     rw[← bu (Txt.join _ _),jC,← bu sep];simp only[List.map_cons,jn,List.length_append];omega
    have k1:Builtin.Str.strKind sep=1:=by unfold Builtin.Str.strKind;rw[if_pos hk]
    have k2:1≤Builtin.Str.strKind (Txt.join sep (w::w'::r)):=by unfold Builtin.Str.strKind;split <;> (try split) <;> omega
    omega
  obtain⟨w,rfl⟩:=this
  rw[one w rfl]
 ·split
  ·rename_i q
   obtain⟨w,rfl⟩:=two (List.isEmpty_iff.mp q)
   rw[one w rfl]
  ·exact pb
def dg (m:Nat):List Nat:=(Nat.toDigits 10 m).map Char.toNat
theorem ji {m:Nat} (h:m < 10):dg m=[48 + m]:=by
 unfold dg
 rw[Nat.toDigits_of_lt_base h]
 have:∀ d:Nat,d < 10→(Nat.digitChar d).toNat=48 + d:=by decide
 rw[List.map_singleton,this m h]
theorem gk {m:Nat} (h:10≤m):dg m=dg (m / 10)++[48 + m % 10]:=by
 have t:Nat.toDigits 10 (m / 10)++Nat.toDigits 10 (m % 10)=Nat.toDigits 10 (10 * (m / 10) + m % 10):=Nat.toDigits_append_toDigits (by decide) (by omega) (Nat.mod_lt _ (by decide))
 rw[Nat.div_add_mod] at t
 have e:=ji (m:=m % 10) (Nat.mod_lt _ (by decide))
 unfold dg at e ⊢
 rw[← t,List.map_append,e]
theorem i4 (m:Nat):∀ c∈dg m,48≤c∧c≤57:=by
 induction m using Nat.strongRecOn with
 | _ m ih=>
  intro c hc
  by_cases h:m < 10
  ·rw[ji h,List.mem_singleton] at hc;omega
  ·rw[gk (by omega),List.mem_append,List.mem_singleton] at hc
   rcases hc with hc | hc
   ·exact ih _ (by omega) c hc
   ·omega
theorem oU (m:Nat):1≤(dg m).length:=by
 by_cases h:m < 10
 ·rw[ji h];simp
 ·rw[gk (by omega)];simp
theorem jL:∀ (k m:Nat),m < 10 ^ (k + 1)→(dg m).length≤k + 1
 | 0,m,h=>by rw[ji (by simpa using h)];simp
 | k + 1,m,h=>by
  by_cases q:m < 10
  ·rw[ji q];simp
  ·rw[gk (by omega),List.length_append]
   have:=jL k (m / 10) (Nat.div_lt_of_lt_mul (by rw[Nat.pow_succ,Nat.mul_comm] at h;exact h))
   simp;omega
theorem vT {m:Nat} (h:m≠0):∃ c r,dg m=c::r∧c≠48:=by
 induction m using Nat.strongRecOn with
 | _ m ih=>
  by_cases q:m < 10
  ·exact⟨_,_,ji q,by omega⟩
  ·obtain⟨c,r,e,hc⟩:=ih (m / 10) (by omega) (by omega)
   exact⟨c,_,by rw[gk (by omega),e];rfl,hc⟩
theorem tK (m:Nat):PySem.NumText.digitsVal (dg m)=m:=PySem.W.KIN.val_back m
theorem iW (n:Int):sg (itx n)=if n < 0 then 45::dg n.natAbs else dg n.natAbs:=by
 cases n with
 | ofNat m=>
  rw[if_neg (by have:(0:Int)≤Int.ofNat m:=Int.natCast_nonneg m;omega)]
  exact PySem.W.KIN.signs_num m
 | negSucc m=>
  rw[if_pos (Int.negSucc_lt_zero m)]
  have:sg (itx (Int.negSucc m))=("-"++Nat.repr (m + 1)).toList.map Char.toNat:=by
   show (Str.ofString (toString (Int.negSucc m))).cps.toList=_
   rw[sA];rfl
  rw[this,String.toList_append,List.map_append,Nat.toList_repr]
  rfl
theorem kQ {n:Int} {c:Nat} (h:c∈sg (itx n)):c=45∨(48≤c∧c≤57):=by
 rw[iW] at h
 split at h
 ·rcases List.mem_cons.mp h with h | h
  ·exact .inl h
  ·exact .inr (i4 _ c h)
 ·exact .inr (i4 _ c h)
theorem er {n:Int} (h:n.natAbs < 10 ^ 15):(itx n).length≤16:=by
 have:=jL 14 _ h
 rw[← bu,iW]
 split
 ·rw[List.length_cons];omega
 ·omega
theorem vF {n:Int} (h:n.natAbs < 10 ^ 15):PySem.intText? (itx n)=some n:=by
 have hl:=er h
 have e:=iW n
 have ne:dg n.natAbs≠[]:=fun z=>by have:=oU n.natAbs;rw[z] at this;simp at this
 split at e
 ·rw[PySem.intText_neg e (i4 _) ne (by omega),tK]
  congr 1;omega
 ·have e':(itx n).cps.toList=dg n.natAbs:=e
  rw[PySem.intText_digits (by rw[e'];exact i4 _) (by rw[e'];exact ne) (by omega),e',tK]
  congr 1;omega
theorem vE {n:Int}:sg (Txt.removeprefix (itx n) (Str.ofString "-"))=dg n.natAbs:=by
 have m:sg (Str.ofString "-")=[45]:=by decide +kernel
 have ml:(Str.ofString "-").length=1:=by decide +kernel
 have e:=iW n
 by_cases h:n < 0
 ·rw[if_pos h] at e
  have at0:Builtin.Str.subAt (itx n) (Str.ofString "-") 0=true:=by rw[gf,e,m,ml];rfl
  have l:(itx n).length=(dg n.natAbs).length + 1:=by rw[← bu,e];rfl
  rw[StrLaws.removeprefix_eq,at0,ml,if_pos (by rw[l];simp)]
  show List.take _ (List.drop 1 (sg (itx n)))=_
  rw[e,l];simp
 ·rw[if_neg h] at e
  have at0:¬ Builtin.Str.subAt (itx n) (Str.ofString "-") 0=true:=by
   rw[gf,e,m,ml]
   intro q
   have d:=i4 n.natAbs
   have l:=oU n.natAbs
   match hd:dg n.natAbs with
   | []=>rw[hd] at l;simp at l
   | c::r=>
    rw[hd] at q d
    have:=d c (by simp)
    simp at q
    omega
  rw[StrLaws.removeprefix_eq,if_neg (by rw[Bool.and_eq_true];exact fun z=>at0 z.2)]
  exact e
theorem vJ {c:Nat} (h:48≤c∧c≤57):inT ⟨#[c]⟩ (Str.ofString "0123456789")=true:=by
 unfold inT
 rw[StrLaws.found_one,decide_eq_true_eq]
 have e:(Str.ofString "0123456789").cps.toList=[48,49,50,51,52,53,54,55,56,57]:=by decide +kernel
 rw[e]
 simp only[List.mem_cons,List.not_mem_nil,or_false]
 omega
end L3
namespace L3
open PySem L2
section
variable {K:PySem.W.Frag} {X:Cx} {st:Stmt} {t:TS} {t3:TS3}
theorem P3S.ofX (h:∀ B F0,nK K X B F0 st t t3):P3S K X st t t3:=⟨(h ⟨fun _=>none,fun _=>none,[]⟩ fun _=>none).pe,fun B F σ H Γ D D3 e k q=>(h B F).rf F σ H Γ D D3 (aC.refl F) e k q⟩
def Cg (K:PySem.W.Frag):Sp:=fun vs H Q _=>∃ e C dx y,vs=[.ref e,y]∧cW K C "ValueError" "ValueError.__new__"=true∧H e=some (cC e C dx)∧Q .non H
end
def fz3 (e3:TE3) (Γ:G) (Q:RV→G→Prop):Prop:=e3 Γ fun r Γ1=>Q (.fz r.d) Γ1
theorem sr {K:PySem.W.Frag} {X:Cx} {e:Expr} {te:TE} {e3:TE3} (h:P3 K X e te e3):P3 K X e te (fz3 e3):=⟨h.pe,fun B F σ H Γ Q QQ en q k=>h.rf B F σ H Γ _ _ en q fun v H' ⟨F',Γ',r,s,e',rv,q'⟩=>by
 obtain⟨F2,s2,e2,rp⟩:=e'.frozen rv
 exact k v H' ⟨F2,Γ',.fz r.d,s.trans s2,e2,rp,q'⟩⟩
def A1 (S:S3X) (Γa:G) (ls:List (Option Nat)) (Γ:G) (Q:RV→G→Prop) (W:XD→G→Prop) (_:Tag (Q,W)):Prop:=S Γa (fun r Γb=>Q r (bB ls Γ Γb)) fun x Γb=>W x (bB ls Γ Γb)
section
variable {Γ:G} {Q:RV→G→Prop} {W:XD→G→Prop} {D:E3}
theorem vW {n:Nat} {S:S3X} {t3:eP}:oZ n S t3 W Γ Q=(t3 Γ fun bs Γ1=>bs.length=n∧(cD bs).Nodup∧A1 S (cT Γ1 (bs.map some)) ((bs.map some).map bD) Γ1 Q W ⟨⟩):=rfl
theorem uL {C:Addr} {ns:List Str} {t3:TA3}:og C ns t3 W D Γ=(t3 Γ fun ds Γ1=>ds.length=ns.length∧W ⟨C,ns,ds⟩ Γ1):=rfl
def mC (o:Option Nat) (k:Nat→Prop) (_:Tag k):Prop:=∃ c,o=some c∧k c
theorem AV {z:Str} {i:Int}:ix3 (.str z) (.int i) Γ Q=(z.length≤sizeLine∧mC (atI z.cps.toList i) (fun c=>Q (.fz (.str ⟨#[c]⟩)) Γ) ⟨⟩):=rfl
end
def wB (b:Bool) (x y:Prop) (_:Tag (x,y)):Prop:=match b with
 | true=>x
 | false=>y
theorem zN {b:Bool} {x y:Prop} {t:Tag (x,y)} (h1:b=true→x) (h2:b=false→y):wB b x y t:=by
 cases b
 ·exact h2 rfl
 ·exact h1 rfl
theorem q8 {A3:TT3} {b3:TS3} {D:E3} {Γ:G} {t:Tag D} (W:Nat→G→Prop) {m:Nat} (h0:W m Γ) (h:∀ m Γ,W m Γ→A3 Γ fun b Γ1=>wB b (b3 { D with nx:=fun Γ'=>∃ m',m' < m∧W m' Γ',ct:=fun Γ'=>∃ m',m' < m∧W m' Γ',bk:=D.nx } Γ1) (D.nx Γ1) ⟨⟩):q9 A3 b3 D Γ t:=by
 refine⟨W,⟨m,h0⟩,fun m Γ w=>?_⟩
 have:=h m Γ w
 exact this
end L3
set_option maxHeartbeats 4000000
namespace K04
open PySem L2 L3
def fw (b:Option D):Option Sl:=b.map Sl.ow
theorem zd {s:Option D} {Γ:G}:aZ (fw s::Γ) 0=True:=by cases s <;> rfl
theorem BA {n:Option D}:iF n none=none:=rfl
theorem C2 {n:Option D} {d:D}:iF n (some (.fz d))=some (.fz d):=rfl
theorem C4 {n:Option D} {d:D}:iF n (some (.ow d))=some (.ow (n.getD d)):=rfl
theorem BB {n:Option D} {d:D}:iF n (some (.ln d))=some (.ln (n.getD d)):=rfl
theorem C6 {n:Option D} {s:Option D}:iF n (fo s)=fo s:=by cases s <;> rfl
theorem C5 {n:Option D} {s:Option D}:iF n (fw s)=fw (s.map fun d=>n.getD d):=by cases s <;> rfl
def mkL(s:String):Lean.MacroM (Array (Lean.TSyntax [`Lean.Parser.Tactic.simpStar,`Lean.Parser.Tactic.simpErase,`Lean.Parser.Tactic.simpLemma])):=do
 let mut xs:=#[]
 for w in s.splitOn " " do
  let n:=(w.dropWhile (·=='↓')).toString.toName
  let i:=match (←Lean.Macro.resolveGlobalName n) with
   |(c,[])::_=>Lean.mkCIdent c
   |_=>Lean.mkIdent n
  let t←if w.startsWith "↓" then `(Lean.Parser.Tactic.simpLemma|↓$i:ident) else `(Lean.Parser.Tactic.simpLemma|$i:ident)
  xs:=xs.push ⟨t.raw⟩
 return xs
local macro_rules | `(tactic| walk_at "n1")=>do `(tactic| try simp -dsimp only [$(←mkL "dq List.length_cons List.length_nil Nat.reduceAdd Nat.reduceSub Nat.zero_add List.replicate List.cons_append List.nil_append List.append_nil ↓A6 ↓y8 ↓A5 ↓wU ↓y9 ↓A8 ↓C7 ↓C8 ↓CZ ↓C1 AG ↓y4 ↓rA ↓xF jB ↓wX ↓wY ↓vZ ↓vK ↓y7 ↓wQ ↓CP ↓CO ↓tu ↓wV ↓h_c pA uq ↓A4 ↓Ba ↓CK ↓A7 xj Cv AK ↓CL ↓wW ↓wR Gat Bo.at ats RV.d RV.sl wj i2 i2' vV eq3 eqS ↓wL ↓AU pT vz vy vA yF vC mx3 zC yV yz ze zg zb zc zf sl3 Cj ↓y6 ↓y3 sR j5 nW is3 knD dB dI dL dT ↓A_ ext3 B4 pR BG beq_self_eq_true i28 Ci Al tF List.zip_cons_cons List.lookup_cons List.lookup_nil ↓uy sE j7 ↓yD vO ↓vX zh ↓A0 vp ↓xH sD ↓zp ↓vS CI CH CG tgP dS Ct Ay CF C9 rG xK RV.fz.injEq ↓ux bS putD tgN tgT gives frees iL3 iR1 iR2 iZ3 iE3 lz3 zB ↓vY ↓vU ↓tN ↓zi List.isEmpty_nil List.isEmpty_cons ↓y_ ↓vL zk zm ↓A9 ↓yB cT kh eX cD bD List.map_cons List.map_nil Option.bind_some Option.bind_none List.nodup_nil List.nodup_cons List.getElem?_cons_zero List.getElem?_cons_succ List.getElem?_nil List.set_cons_zero List.set_cons_succ exists_eq_left' exists_eq_left exists_eq' exists_eq exists_and_left exists_and_right Option.some.injEq D.int.injEq D.lst.injEq D.str.injEq D.tup.injEq D.bl.injEq D.ins.injEq D.ty.injEq List.cons.injEq and_true true_and and_false false_and true_or false_or or_false or_true and_assoc List.not_mem_nil not_false_eq_true o4 Bm CY vQ Bj Bi Bl nj Bool.false_xor Bool.not_true Bool.not_false Bool.true_xor dG List.mapIdx_cons List.mapIdx_nil bB ite_self newD Option.getD_some Option.getD_none BF BE BD BC yQ yP yO if_pos if_true if_false List.all_cons List.all_nil Option.isNone_none Bool.and_true Bool.true_and decide_eq_true_eq not_true not_false_iff reduceCtorEq eq_self Bool.false_eq_true reduceIte Int.reduceEq BA C2 C4 BB C6 C5 zd B6 CQ zP frL AF zO Aa xE xD nm3 iT3 CW Bu Nat.reduceEqDiff ↓Ax ↓z8 ↓wK s_ xG yX AX isN yT ↓q_ ↓vW ↓uL ↓fz3 ↓AV qX yS dvv D.exc.injEq D.adr.injEq xu E3.l_"),*])
def top (i:Nat):Stmt:=PySem.Challenge.pw_halvedpictures_k04_texts_written_and_rea.main.body.getD i (.Pass ⟨0,0,0,0⟩)
abbrev aw:Stmt:=inClass (top 2) 0
abbrev aE:Stmt:=inClass (top 3) 0
abbrev bJ:Stmt:=top 10
abbrev bh:Stmt:=top 11
abbrev b5:Stmt:=top 12
abbrev bY:Stmt:=top 13
abbrev a_:Stmt:=top 16
abbrev aF:Stmt:=inClass (top 17) 0
abbrev aV:Stmt:=inClass (top 17) 3
abbrev bw:Stmt:=top 21
abbrev aR:Stmt:=top 22
abbrev bx:Stmt:=top 23
abbrev aQ:Stmt:=top 24
abbrev br:Stmt:=top 26
abbrev bK:Stmt:=top 27
abbrev bp:Stmt:=top 28
abbrev aT:Stmt:=top 29
abbrev bq:Stmt:=top 30
abbrev aS:Stmt:=top 31
abbrev aN:Stmt:=top 32
abbrev bj:Stmt:=top 33
abbrev aO:Stmt:=top 34
abbrev fi:Stmt:=top 35
theorem dD:aJ ["self","words"] ["self","words"] (ab aw):=⟨rfl,rfl,rfl,by decide +kernel,rfl,by decide +kernel,by decide +kernel⟩
theorem gn:aJ ["self","found"] ["self","found"] (ab aE):=⟨rfl,rfl,rfl,by decide +kernel,rfl,by decide +kernel,by decide +kernel⟩
theorem mH:aJ ["thing","low","high"] ["thing","low","high"] (ab bJ):=⟨rfl,rfl,rfl,by decide +kernel,rfl,by decide +kernel,by decide +kernel⟩
theorem lK:aJ ["thing"] ["thing"] (ab bh):=⟨rfl,rfl,rfl,by decide +kernel,rfl,by decide +kernel,by decide +kernel⟩
theorem qr:aJ ["thing","least"] ["thing","least"] (ab b5):=⟨rfl,rfl,rfl,by decide +kernel,rfl,by decide +kernel,by decide +kernel⟩
def jz:Scope:={ kind:=.function,names:=[(".0",.local),("number",.local),("is_number",.globalImplicit)],isGenerator:=false,isCoroutine:=false,more:=[] }
theorem iB:Blk ["thing","least"] (ab b5) jz ["number"] [none]:=⟨rfl,by decide +kernel,by decide +kernel,by decide +kernel,by decide +kernel,rfl,by decide +kernel⟩
theorem n6:aJ ["height","width"] ["height","width"] (ab bY):=⟨rfl,rfl,rfl,by decide +kernel,rfl,by decide +kernel,by decide +kernel⟩
theorem jc:aJ ["thing","width"] ["thing"] (ab a_):=⟨rfl,rfl,rfl,by decide +kernel,rfl,by decide +kernel,by decide +kernel⟩
def iE:Scope:={ kind:=.function,names:=[(".0",.local),("row",.local),("len",.globalImplicit),("width",.free)],isGenerator:=false,isCoroutine:=false,more:=[] }
theorem fY:Blk ["thing","width"] (ab a_) iE ["row","width"] [none,some 1]:=⟨rfl,by decide +kernel,by decide +kernel,by decide +kernel,by decide +kernel,rfl,by decide +kernel⟩
def iD:Scope:={ kind:=.function,names:=[(".0",.local),("row",.local),("is_row",.globalImplicit)],isGenerator:=false,isCoroutine:=false,more:=[] }
theorem fX:Blk ["thing","width"] (ab a_) iD ["row"] [none]:=⟨rfl,by decide +kernel,by decide +kernel,by decide +kernel,by decide +kernel,rfl,by decide +kernel⟩
theorem hZ:aJ ["self","rows"] ["self","rows"] (ab aF):=⟨rfl,rfl,rfl,by decide +kernel,rfl,by decide +kernel,by decide +kernel⟩
def dU:Scope:={ kind:=.function,names:=[(".0",.local),("row",.local),("tuple",.globalImplicit)],isGenerator:=false,isCoroutine:=false,more:=[] }
theorem cL:Blk ["self","rows"] (ab aF) dU ["row"] [none]:=⟨rfl,by decide +kernel,by decide +kernel,by decide +kernel,by decide +kernel,rfl,by decide +kernel⟩
theorem ko:aJ ["self"] ["self"] (ab aV):=⟨rfl,rfl,rfl,by decide +kernel,rfl,by decide +kernel,by decide +kernel⟩
def gx:Scope:={ kind:=.function,names:=[(".0",.local),("row",.local),("list",.globalImplicit)],isGenerator:=false,isCoroutine:=false,more:=[] }
theorem dR:Blk ["self"] (ab aV) gx ["row"] [none]:=⟨rfl,by decide +kernel,by decide +kernel,by decide +kernel,by decide +kernel,rfl,by decide +kernel⟩
theorem mG:aJ ["row"] ["row"] (ab bw):=⟨rfl,rfl,rfl,by decide +kernel,rfl,by decide +kernel,by decide +kernel⟩
def iA:Scope:={ kind:=.function,names:=[(".0",.local),("number",.local),("str",.globalImplicit)],isGenerator:=false,isCoroutine:=false,more:=[] }
theorem fV:Blk ["row"] (ab bw) iA ["number"] [none]:=⟨rfl,by decide +kernel,by decide +kernel,by decide +kernel,by decide +kernel,rfl,by decide +kernel⟩
theorem gA:aJ ["field"] ["field"] (ab aR):=⟨rfl,rfl,rfl,by decide +kernel,rfl,by decide +kernel,by decide +kernel⟩
def gw:Scope:={ kind:=.function,names:=[(".0",.local),("row",.local),("row_text",.globalImplicit)],isGenerator:=false,isCoroutine:=false,more:=[] }
theorem dQ:Blk ["field"] (ab aR) gw ["row"] [none]:=⟨rfl,by decide +kernel,by decide +kernel,by decide +kernel,by decide +kernel,rfl,by decide +kernel⟩
def gv:Scope:={ kind:=.function,names:=[(".0",.local),("row",.local),("row_text",.globalImplicit)],isGenerator:=false,isCoroutine:=false,more:=[] }
theorem dP:Blk ["field"] (ab aR) gv ["row"] [none]:=⟨rfl,by decide +kernel,by decide +kernel,by decide +kernel,by decide +kernel,rfl,by decide +kernel⟩
theorem jb:aJ ["word","most","figures"] ["word","most"] (ab bx):=⟨rfl,rfl,rfl,by decide +kernel,rfl,by decide +kernel,by decide +kernel⟩
def iC:Scope:={ kind:=.function,names:=[(".0",.local),("sign",.local),("FIGURES",.globalImplicit)],isGenerator:=false,isCoroutine:=false,more:=[] }
theorem fW:Blk ["word","most","figures"] (ab bx) iC ["sign"] [none]:=⟨rfl,by decide +kernel,by decide +kernel,by decide +kernel,by decide +kernel,rfl,by decide +kernel⟩
theorem cI:aJ ["text","rows","line","words"] ["text"] (ab aQ):=⟨rfl,rfl,rfl,by decide +kernel,rfl,by decide +kernel,by decide +kernel⟩
def gu:Scope:={ kind:=.function,names:=[(".0",.local),("word",.local),("int",.globalImplicit)],isGenerator:=false,isCoroutine:=false,more:=[] }
theorem dO:Blk ["text","rows","line","words"] (ab aQ) gu ["word"] [none]:=⟨rfl,by decide +kernel,by decide +kernel,by decide +kernel,by decide +kernel,rfl,by decide +kernel⟩
def gq:Scope:={ kind:=.function,names:=[(".0",.local),("word",.local),("is_plain",.globalImplicit),("MOST_FIGURES",.globalImplicit)],isGenerator:=false,isCoroutine:=false,more:=[] }
theorem dN:Blk ["text","rows","line","words"] (ab aQ) gq ["word"] [none]:=⟨rfl,by decide +kernel,by decide +kernel,by decide +kernel,by decide +kernel,rfl,by decide +kernel⟩
theorem lL:aJ ["_law_script","_law_k"] ["_law_script","_law_k"] (ab br):=⟨rfl,rfl,rfl,by decide +kernel,rfl,by decide +kernel,by decide +kernel⟩
theorem mJ:aJ ["_law_cell_here"] ["_law_cell_here"] (ab bK):=⟨rfl,rfl,rfl,by decide +kernel,rfl,by decide +kernel,by decide +kernel⟩
theorem cu:aJ ["_law_box_here","_law_many","_law_digit","_law_far","_law_number_here"] ["_law_box_here","_law_many"] (ab bp):=⟨rfl,rfl,rfl,by decide +kernel,rfl,by decide +kernel,by decide +kernel⟩
theorem cY:aJ ["_law_box_here","_law_way","_law_far"] ["_law_box_here"] (ab aT):=⟨rfl,rfl,rfl,by decide +kernel,rfl,by decide +kernel,by decide +kernel⟩
theorem d5:aJ ["_law_box_here","_law_way","_law_high"] ["_law_box_here"] (ab bq):=⟨rfl,rfl,rfl,by decide +kernel,rfl,by decide +kernel,by decide +kernel⟩
theorem b8:aJ ["_law_box_here","_law_size_here","_law_seed","_law_wide","_law_rows_here","_law_y","_law_some"] ["_law_box_here","_law_size_here"] (ab aS):=⟨rfl,rfl,rfl,by decide +kernel,rfl,by decide +kernel,by decide +kernel⟩
def g8:Scope:={ kind:=.function,names:=[(".0",.local),("_law_y",.local),("range",.globalImplicit),("_law_box_here",.free),("_law_size_here",.free)],isGenerator:=false,isCoroutine:=false,more:=[] }
theorem eW:Blk ["_law_box_here","_law_size_here","_law_seed","_law_wide","_law_rows_here","_law_y","_law_some"] (ab aS) g8 ["_law_y","_law_box_here","_law_size_here"] [none,some 0,some 1]:=⟨rfl,by decide +kernel,by decide +kernel,by decide +kernel,by decide +kernel,rfl,by decide +kernel⟩
def g7:Scope:={ kind:=.function,names:=[(".0",.local),("_law_y",.local),("range",.globalImplicit),("_law_box_here",.cell),("_law_size_here",.cell)],isGenerator:=false,isCoroutine:=false,more:=[] }
def g6:Scope:={ kind:=.function,names:=[(".0",.local),("_law_x",.local),("_law_number",.globalImplicit),("_law_box_here",.free)],isGenerator:=false,isCoroutine:=false,more:=[] }
theorem eV:Blk ["_law_y","_law_box_here","_law_size_here"] (g7) g6 ["_law_x","_law_box_here"] [none,some 1]:=⟨rfl,by decide +kernel,by decide +kernel,by decide +kernel,by decide +kernel,rfl,by decide +kernel⟩
def g5:Scope:={ kind:=.function,names:=[(".0",.local),("_law_number_here",.local),("_law_wide",.free)],isGenerator:=false,isCoroutine:=false,more:=[] }
theorem eU:Blk ["_law_box_here","_law_size_here","_law_seed","_law_wide","_law_rows_here","_law_y","_law_some"] (ab aS) g5 ["_law_number_here","_law_wide"] [none,some 3]:=⟨rfl,by decide +kernel,by decide +kernel,by decide +kernel,by decide +kernel,rfl,by decide +kernel⟩
def gZ:Scope:={ kind:=.function,names:=[(".0",.local),("_law_x",.local),("_law_seed",.free),("_law_y",.free)],isGenerator:=false,isCoroutine:=false,more:=[] }
theorem eS:Blk ["_law_box_here","_law_size_here","_law_seed","_law_wide","_law_rows_here","_law_y","_law_some"] (ab aS) gZ ["_law_x","_law_seed","_law_y"] [none,some 2,some 5]:=⟨rfl,by decide +kernel,by decide +kernel,by decide +kernel,by decide +kernel,rfl,by decide +kernel⟩
theorem bX:aJ ["_law_number_here","_law_rest","_law_figures"] ["_law_number_here"] (ab aN):=⟨rfl,rfl,rfl,by decide +kernel,rfl,by decide +kernel,by decide +kernel⟩
theorem ba:aJ ["_law_rows_here","_law_text_here","_law_y","_law_row","_law_x","_law_number_here"] ["_law_rows_here"] (ab bj):=⟨rfl,rfl,rfl,by decide +kernel,rfl,by decide +kernel,by decide +kernel⟩
theorem cn:aJ ["_law_thing","_law_told","e"] ["_law_thing"] (ab aO):=⟨rfl,rfl,rfl,by decide +kernel,rfl,by decide +kernel,by decide +kernel⟩
theorem cX:aJ ["_law_script","_law_k","_law_box_here","_law_size_here","_law_rows_here","_law_field","_law_due","_law_turn","_law_text_here","_law_other","_law_thing"] ["_law_script"] (ab fi):=⟨rfl,rfl,rfl,by decide +kernel,rfl,by decide +kernel,by decide +kernel⟩
def mx:Scope:={ kind:=.function,names:=[(".0",.local),("_law_row",.local),("list",.globalImplicit)],isGenerator:=false,isCoroutine:=false,more:=[] }
theorem k_:Blk ["_law_script","_law_k","_law_box_here","_law_size_here","_law_rows_here","_law_field","_law_due","_law_turn","_law_text_here","_law_other","_law_thing"] (ab fi) mx ["_law_row"] [none]:=⟨rfl,by decide +kernel,by decide +kernel,by decide +kernel,by decide +kernel,rfl,by decide +kernel⟩
set_option genInjectivity false in
set_option genSizeOf false in
structure Ad where
 aD:Addr
 az:Addr
 ak:Addr
 dZ:Addr
 bW:Addr
 bO:FuncData
 cq:Addr
 cb:FuncData
 gS:Addr
 fG:FuncData
 fK:Addr
 eu:FuncData
 j9:Addr
 iX:FuncData
 iZ:Addr
 gQ:FuncData
 gW:Addr
 fI:FuncData
 cG:Addr
 cx:FuncData
 eI:Addr
 dA:FuncData
 gR:Addr
 fF:FuncData
 cQ:Addr
 cK:FuncData
 gU:Addr
 fH:FuncData
 eH:Addr
 dz:FuncData
 fP:Addr
 eF:FuncData
 gX:Addr
 fJ:FuncData
 fM:Addr
 eC:FuncData
 dC:Addr
 dc:FuncData
 fN:Addr
 eD:FuncData
 fO:Addr
 eE:FuncData
 de:Addr
 cO:FuncData
 fL:Addr
 ey:FuncData
 df:Addr
 cP:FuncData
 p6:Addr
 me:FuncData
structure Txt (K:PySem.W.Frag) (mg:Str→Option Value) (a:Ad):Prop where
 dh:Cls K a.aD
 fy:mg "Field"=some (.ref a.aD)
 fx:mg "HalvedError"=some (.ref a.az)
 j3:mg "NoField"=some (.ref a.ak)
 qE:mg "NoText"=some (.ref a.dZ)
 gE:cf K a.aD "grid"
 tys:TyS K
 cB:Fun K "__init__" "HalvedError.__init__" aw a.bW a.bO
 eM:Binds K a.bO ["self","words"] []
 hV:Fun K "__init__" "NoField.__init__" aE a.cq a.cb
 g_:Binds K a.cb ["self","found"] []
 eR:Fun K "is_whole" "is_whole" bJ a.gS a.fG
 g9:Binds K a.fG ["thing","low","high"] []
 gN:mg "is_whole"=some (.ref a.gS)
 jq:Fun K "is_number" "is_number" bh a.fK a.eu
 nD:Binds K a.eu ["thing"] []
 m4:mg "is_number"=some (.ref a.fK)
 nM:Fun K "is_row" "is_row" b5 a.j9 a.iX
 t8:Binds K a.iX ["thing","least"] []
 sN:mg "is_row"=some (.ref a.j9)
 lx:Fun K "is_size" "is_size" bY a.iZ a.gQ
 qS:Binds K a.gQ ["height","width"] []
 qD:mg "is_size"=some (.ref a.iZ)
 kl:Fun K "are_rows" "are_rows" a_ a.gW a.fI
 o6:Binds K a.fI ["thing"] []
 oH:mg "are_rows"=some (.ref a.gW)
 ja:Fun K "__init__" "Field.__init__" aF a.cG a.cx
 dX:Binds K a.cx ["self","rows"] []
 mD:Fun K "rows" "Field.rows" aV a.eI a.dA
 cy:Binds K a.dA ["self"] []
 hU:Fun K "row_text" "row_text" bw a.gR a.fF
 ke:Binds K a.fF ["row"] []
 jZ:mg "row_text"=some (.ref a.gR)
 cA:Fun K "field_text" "field_text" aR a.cQ a.cK
 eL:Binds K a.cK ["field"] []
 ek:mg "field_text"=some (.ref a.cQ)
 kj:Fun K "is_plain" "is_plain" bx a.gU a.fH
 o5:Binds K a.fH ["word","most"] []
 oG:mg "is_plain"=some (.ref a.gU)
 eQ:Fun K "read_field" "read_field" aQ a.eH a.dz
 iG:Binds K a.dz ["text"] []
 iw:mg "read_field"=some (.ref a.eH)
 ju:Fun K "_law_cell" "_law_cell" br a.fP a.eF
 nH:Binds K a.eF ["_law_script","_law_k"] []
 m8:mg "_law_cell"=some (.ref a.fP)
 km:Fun K "_law_box" "_law_box" bK a.gX a.fJ
 o7:Binds K a.fJ ["_law_cell_here"] []
 oJ:mg "_law_box"=some (.ref a.gX)
 aK:Fun K "_law_take" "_law_take" bp a.fM a.eC
 aM:Binds K a.eC ["_law_box_here","_law_many"] []
 aL:mg "_law_take"=some (.ref a.fM)
 gI:Fun K "_law_number" "_law_number" aT a.dC a.dc
 ky:Binds K a.dc ["_law_box_here"] []
 kq:mg "_law_number"=some (.ref a.dC)
 js:Fun K "_law_size" "_law_size" bq a.fN a.eD
 nF:Binds K a.eD ["_law_box_here"] []
 m6:mg "_law_size"=some (.ref a.fN)
 jt:Fun K "_law_rows" "_law_rows" aS a.fO a.eE
 nG:Binds K a.eE ["_law_box_here","_law_size_here"] []
 m7:mg "_law_rows"=some (.ref a.fO)
 gb:Fun K "_law_written" "_law_written" aN a.de a.cO
 kf:Binds K a.cO ["_law_number_here"] []
 j0:mg "_law_written"=some (.ref a.de)
 jr:Fun K "_law_text" "_law_text" bj a.fL a.ey
 nE:Binds K a.ey ["_law_rows_here"] []
 m5:mg "_law_text"=some (.ref a.fL)
 gc:Fun K "_law_refused" "_law_refused" aO a.df a.cP
 kg:Binds K a.cP ["_law_thing"] []
 j1:mg "_law_refused"=some (.ref a.df)
 BS:Fun K "law" "law" fi a.p6 a.me
 DF:Binds K a.me ["_law_script"] []
 Dz:mg "law"=some (.ref a.p6)
 jP:t_ K a.az
 jO:XMk K a.ak a.cq
 nP:o8 K a.ak
 cE:XIs K a.ak
 iT:cf K a.ak "found"
 iM:PySem.W.takerIn K a.ak "found"=some none
 eh:PySem.W.mroIn K a.ak (.ref a.az)=some true
 gO:PySem.W.kitOne K (.ref a.ak) (.ref a.ak)=some true
 ix:PySem.W.kitOne K (.ref a.ak) (.ref a.dZ)=some false
 z_ValueError:mg "ValueError"=none
 CJ:PySem.W.readsIn K a.az (.type "type")=true
 CM:PySem.W.specialIn K (.ref a.az) "__getattribute__"=some (some (.builtin "type.__getattribute__"))
 CN:PySem.W.findCls K (.ref a.az) (.type "type") "__init__"=some (.val (.ref a.bW))
 mk_Field:Mk K a.aD a.cG
 ck:Meth K a.aD "rows" a.eI
 kb:∃ t,mg "MOST_FIGURES"=some (.int 15 t)
 gG:∃ t,mg "MOST_NUMBER"=some (.int 999999999999999 t)
 kx:∃ t,mg "MOST_PLACES"=some (.int 512 t)
 fU:∃ t,mg "MOST_SIDE"=some (.int 64 t)
 qR:∃ t,mg "FIGURES"=some (.str (Str.ofString "0123456789") t)
 j6:xk K a.aD
 z_abs:mg "abs"=none
 z_all:mg "all"=none
 z_bool:mg "bool"=none
 z_enumerate:mg "enumerate"=none
 z_int:mg "int"=none
 z_isinstance:mg "isinstance"=none
 z_len:mg "len"=none
 z_list:mg "list"=none
 z_max:mg "max"=none
 z_min:mg "min"=none
 z_range:mg "range"=none
 z_repr:mg "repr"=none
 z_str:mg "str"=none
 z_tuple:mg "tuple"=none
 ty:eO K
abbrev il (ns:List Int):D:=.lst (ns.map .int)
def Fig (ns:List Int):Prop:=∀ n∈ns,-1000000000000000 < n∧n < 1000000000000000
theorem snoc {f:Nat→D} {k:Nat} {d:D} (h:d=f k):(List.range k).map f++[d]=(List.range (k + 1)).map f:=by
 rw[List.range_succ,List.map_append,h];rfl
theorem oM {α:Type} {l:List α} {k:Nat} {a:α} (h:l[k]?=some a):k < l.length:=(List.getElem?_eq_some_iff.mp h).1
theorem cc {α:Type} {f:α→D} {l:List α} {k:Nat} {d:D} (h:(l.map f)[k]?=some d):∃ x,l[k]?=some x∧d=f x:=by
 rw[List.getElem?_map] at h
 cases q:l[k]? with
 | none=>rw[q] at h;cases h
 | some x=>rw[q] at h;cases h;exact⟨x,rfl,rfl⟩
theorem take_snoc {α:Type} {xs:List α} {k:Nat} {x:α} (h:xs[k]?=some x):xs.take (k + 1)=xs.take k++[x]:=by rw[List.take_succ,h];rfl
theorem small {n:Nat} (h:n≤100000):n < sizeLine:=by rw[sizeLine_eq];omega
theorem bC {n:Nat} (h:n≤100000):n≤sizeLine:=Nat.le_of_lt (small h)
theorem dE {n k:Nat} {i:Int} {d:D} (h:(rng i n)[k]?=some d):k < n∧d=.int (i + k):=by
 unfold rng at h
 obtain⟨x,hx,rfl⟩:=cc h
 have lt:=oM hx
 rw[List.length_range] at lt
 rw[List.getElem?_range lt] at hx
 cases hx
 exact⟨lt,rfl⟩
section
variable {P:Program} {w:World} {K:PySem.W.Frag} {mg:Str→Option Value} {base:Heap} {a:Ad}
def whD (d:D) (lo hi:Int):Bool:=match d with
 | .int i=>decide (lo≤i) && decide (i≤hi)
 | _=>false
def uh:S3:=fun Γ Q=>∃ (d:D) (lo hi:Int),Γ=[some (.fz d),some (.fz (.int lo)),some (.fz (.int hi))]∧knD d=true∧Q (.fz (.bl (whD d lo hi))) Γ
theorem fv (T:Txt K mg a):aX P w K mg base CX0 1 a.gS a.fG ["thing","low","high"] (sp3 K 3 uh):=by
 refine ok3 T.eR mH (hbody:=fun cdv A outer s H E hr=>⟨_,_,(ai (bR (P3W.pt (d8 (bE (av (Bw T.ty) (by rfl) T.z_isinstance (by decide +kernel) (aa (bv 0) (aa (P3.opd (kO (n:="bool") (by rfl) T.z_bool (by decide +kernel))) ae)))) (d7 (bF (bE (av (Bv T.ty) (by rfl) T.z_isinstance (by decide +kernel) (aa (bv 0) (aa (P3.opd (kO (n:="int") (by rfl) T.z_int (by decide +kernel))) ae)))))))) (aq (aG dF)) aW)
   (aq (aG (su kd kd (bv 1) (bv 0) (bv 2))))),fun Γa Q h hl=>?_⟩)
 obtain⟨d,lo,hi,rfl,hk,q⟩:=h
 cases d <;> (try cases hk) <;> walk_at "n1" <;> (try exact q)
 rename_i i
 by_cases h:lo≤i
 ·simp only[iY,h,decide_true]
  simpa only[whD,h,decide_true,Bool.true_and] using q
 ·simp only[iY,h,decide_false]
  simpa only[whD,h,decide_false,Bool.false_and] using q
def sF:S3:=fun Γ Q=>∃ (d:D),Γ=[some (.fz d)]∧knD d=true∧Q (.fz (.bl (whD d (-999999999999999) 999999999999999))) Γ
theorem lS (T:Txt K mg a):aX P w K mg base CX0 2 a.fK a.eu ["thing"] (sp3 K 1 sF):=by
 refine ok3 T.jq lK (hbody:=fun cdv A outer s H E hr=>⟨_,_,(aq (aG (aA (by rfl) (fv T) (hr.mono (by decide)) (by rfl) T.gN T.eR.kp T.g9 (aa (P3.opd (p3v 0)) (aa (P3.opd (sk (P3.opd (eg (i:=999999999999999) (by rfl) T.gG)))) (aa (P3.opd (eg (i:=999999999999999) (by rfl) T.gG)) ae)))))),fun Γa Q h hl=>?_⟩)
 obtain⟨d,rfl,hk,q⟩:=h
 walk_at "n1"
 exact⟨d,_,_,rfl,hk,q⟩
theorem ui {n:Int} (h:-1000000000000000 < n∧n < 1000000000000000):whD (.int n) (-999999999999999) 999999999999999=true:=by
 simp only[whD,Bool.and_eq_true,decide_eq_true_eq];omega
def Ag:S3:=fun Γ Q=>∃ (ns:List Int),Γ=[some (.fz (il ns)),some (.fz (.int 1))]∧Fig ns∧ns.length≤64∧1≤ns.length∧Q (.fz (.bl true)) Γ
theorem zR {n:Nat}:(List.range n).map (fun _=>D.bl true)=((List.range n).map fun _=>true).map D.bl:=by rw[List.map_map];rfl
theorem all_true {n:Nat}:((List.range n).map fun _=>true).all id=true:=by simp
theorem qA (T:Txt K mg a):aX P w K mg base CX0 3 a.j9 a.iX ["thing","least"] (sp3 K 2 Ag):=by
 refine ok3 T.nM qr (hbody:=fun cdv A outer s H E hr=>⟨_,_,(ai (bR (P3W.pt (d8 (bF (bE (av (xh T.ty) (by rfl) T.z_isinstance (by decide +kernel) (aa (bv 0) (aa (P3.opd (kO (n:="list") (by rfl) T.z_list (by decide +kernel))) ae))))) (d7 (bF (kN kd kd (bv 1) (P3.opd (av (jk (by rfl)) (by rfl) T.z_len (by decide +kernel) (aa (bv 0) ae))) (P3.opd (eg (i:=64) (by rfl) T.fU))))))) (aq (aG dF)) aW)
   (aq (aG (av (nz (by rfl) rfl) (by rfl) T.z_all (by decide +kernel) (aa (P3.opd (bU rfl (b9 (by rfl) (p3v 0)) iB (fun _ _ _ _ _=>(aY (i:=0) iB.nd rfl (Or.inl rfl))) (fun _ _ _ _ _=>(aA (by rfl) (lS T) (hr.mono (by decide)) (by rfl) T.m4 T.jq.kp T.nD (aa (P3.opd (p3v 0)) ae))))) ae))))),fun Γa Q h hl=>?_⟩)
 obtain⟨ns,rfl,hf,h1,h2,q⟩:=h
 walk_at "n1"
 rw[List.length_map,show iY 1 (ns.length:Int)=true by simp only[iY,decide_eq_true_eq];omega,show iY (ns.length:Int) 64=true by simp only[iY,decide_eq_true_eq];omega]
 walk_at "n1"
 refine⟨small (by rw[List.length_map];omega),bA (fun k ys Γc=>ys=(List.range k).map (fun _=>D.bl true)∧∃ s,Γc=[fo s]) ⟨rfl,none,rfl⟩ ?_ ?_⟩
 ·rintro k d ys Γc hd hk ⟨rfl,s,rfl⟩
  obtain⟨n,hn,rfl⟩:=cc hd
  walk_at "n1"
  refine⟨_,rfl,rfl,?_⟩
  rw[ui (hf n (List.mem_of_getElem? hn))]
  walk_at "n1"
  exact⟨snoc rfl,some _,rfl⟩
 ·rintro ys Γc hk ⟨rfl,s,rfl⟩
  walk_at "n1"
  refine⟨(List.range ns.length).map fun _=>true,by rw[List.length_map,List.map_map];rfl,?_⟩
  rw[all_true];exact q
def o9 (h w:Int):Prop:=1≤h∧h≤64∧1≤w∧w≤64∧h * w≤512
def xI:S3:=fun Γ Q=>∃ h w:Int,Γ=[some (.fz (.int h)),some (.fz (.int w))]∧o9 h w∧Q (.fz (.bl true)) Γ
theorem oz (T:Txt K mg a):aX P w K mg base CX0 2 a.iZ a.gQ ["height","width"] (sp3 K 2 xI):=by
 refine ok3 T.lx n6 (hbody:=fun cdv A outer s H E hr=>⟨_,_,(ai (bR (P3W.pt (d8 (bF (bE (aA (by rfl) (fv T) (hr.mono (by decide)) (by rfl) T.gN T.eR.kp T.g9 (aa (P3.opd (p3v 0)) (aa (P3.opd af) (aa (P3.opd (eg (i:=64) (by rfl) T.fU)) ae)))))) (d7 (bF (bE (aA (by rfl) (fv T) (hr.mono (by decide)) (by rfl) T.gN T.eR.kp T.g9 (aa (P3.opd (p3v 1)) (aa (P3.opd af) (aa (P3.opd (eg (i:=64) (by rfl) T.fU)) ae))))))))) (aq (aG dF)) aW)
   (aq (aG (iR kd (P3.opd (cN (bv 0) (bv 1))) (P3.opd (eg (i:=512) (by rfl) T.kx)) (bg _))))),fun Γa Q h hl=>?_⟩)
 obtain⟨h,w,rfl,⟨a1,a2,a3,a4,a5⟩,q⟩:=h
 walk_at "n1"
 refine⟨_,_,_,rfl,rfl,?_⟩
 rw[show whD (.int h) 1 64=true by simp only[whD,Bool.and_eq_true,decide_eq_true_eq];omega]
 walk_at "n1"
 refine⟨_,_,_,rfl,rfl,?_⟩
 rw[show whD (.int w) 1 64=true by simp only[whD,Bool.and_eq_true,decide_eq_true_eq];omega]
 walk_at "n1"
 refine⟨.inl ⟨by omega,by omega⟩,?_⟩
 rw[show iY (h * w) 512=true by simp only[iY,decide_eq_true_eq];exact a5]
 exact q
structure GR (w:Nat) (R:List (List Int)):Prop where
 h1:1≤R.length
 h2:R.length≤64
 w1:1≤w
 w2:w≤64
 all:R.length * w≤512
 len:∀ r∈R,r.length=w
 fig:∀ r∈R,Fig r
abbrev rD (R:List (List Int)):D:=.lst (R.map il)
abbrev tD (r:List Int):D:=.tup (r.map .int)
abbrev fD (a:Ad) (R:List (List Int)):D:=.ins a.aD ["grid"] [.tup (R.map tD)]
def xP:S3:=fun Γ Q=>∃ (w:Nat) (R:List (List Int)),Γ=[some (.fz (rD R))]∧GR w R∧Q (.fz (.bl true)) Γ
theorem GR.at0 {w:Nat} {R:List (List Int)} (g:GR w R):∃ r,R[0]?=some r∧r∈R∧r.length=w:=by
 have h:=g.h1
 exact⟨R[0],List.getElem?_eq_getElem (by omega),List.getElem_mem _,g.len _ (List.getElem_mem _)⟩
theorem mX (T:Txt K mg a):aX P w K mg base CX0 4 a.gW a.fI ["thing"] (sp3 K 1 xP):=by
 refine ok3 T.kl jc (hbody:=fun cdv A outer s H E hr=>⟨_,_,(ai (bR (P3W.pt (d8 (bF (bE (av (xh T.ty) (by rfl) T.z_isinstance (by decide +kernel) (aa (bv 0) (aa (P3.opd (kO (n:="list") (by rfl) T.z_list (by decide +kernel))) ae))))) (d7 (bc (eK (by rfl) hr) (P3.opd (av (jk (by rfl)) (by rfl) T.z_len (by decide +kernel) (aa (bv 0) ae))) (P3.opd af) (bg _))))) (aq (aG dF)) aW)
   (ai (bR (bF (bE (av (nz (by rfl) rfl) (by rfl) T.z_all (by decide +kernel) (aa (P3.opd (bU rfl (b9 (by rfl) (p3v 0)) fX (fun _ _ _ _ _=>(aY (i:=0) fX.nd rfl (Or.inl rfl))) (fun _ _ _ _ _=>(aA (by rfl) (qA T) (hr.mono (by decide)) (by rfl) T.sN T.nM.kp T.t8 (aa (P3.opd (p3v 0)) (aa (P3.opd af) ae)))))) ae)))) (aq (aG dF)) aW)
   (ai (aP (i:=1) jc.nd rfl (Or.inr rfl) (av (jk (by rfl)) (by rfl) T.z_len (by decide +kernel) (aa (P3.opd (b7 (by rfl) (bv 0) (P3.opd af) (fun _ _=>rfl))) ae)))
   (aq (aG (sv (aA (by rfl) (oz T) (hr.mono (by decide)) (by rfl) T.qD T.lx.kp T.qS (aa (P3.opd (av (jk (by rfl)) (by rfl) T.z_len (by decide +kernel) (aa (bv 0) ae))) (aa (P3.opd (p3v 1)) ae))) (sj (av (nz (by rfl) rfl) (by rfl) T.z_all (by decide +kernel) (aa (P3.opd (bU rfl (b9 (by rfl) (p3v 0)) fY (fun _ _ _ _ _=>(aY (i:=0) fY.nd rfl (Or.inl rfl))) (fun _ _ _ _ _=>(iR (eK (by rfl) hr) (P3.opd (av (jk (by rfl)) (by rfl) T.z_len (by decide +kernel) (aa (bv 0) ae))) (bv 1) (bg _))))) ae))))))))),fun Γa Q h hl=>?_⟩)
 obtain⟨w,R,rfl,g,q⟩:=h
 have g1:=g.h1
 have g2:=g.h2
 obtain⟨r0,h0,hm0,hl0⟩:=g.at0
 walk_at "n1"
 rw[List.length_map,show ((R.length:Int) == 0)=false by rw[beq_eq_false_iff_ne];omega]
 walk_at "n1"
 refine⟨small (by rw[List.length_map];omega),bA (fun k ys Γc=>ys=(List.range k).map (fun _=>D.bl true)∧∃ s,Γc=[fo s]) ⟨rfl,none,rfl⟩ ?_ ?_⟩
 ·rintro k d ys Γc hd hk ⟨rfl,s,rfl⟩
  obtain⟨r,hr,rfl⟩:=cc hd
  have hm:=List.mem_of_getElem? hr
  walk_at "n1"
  refine⟨r,rfl,g.fig r hm,by rw[g.len r hm];exact g.w2,by rw[g.len r hm];exact g.w1,?_⟩
  walk_at "n1"
  exact⟨snoc rfl,some _,rfl⟩
 ·rintro ys Γc hk ⟨rfl,s,rfl⟩
  walk_at "n1"
  refine⟨(List.range R.length).map fun _=>true,by rw[List.length_map,List.map_map];rfl,?_⟩
  rw[all_true]
  walk_at "n1"
  refine jf.mpr ⟨il r0,f_ (by decide) (by rw[List.getElem?_map,show (Int.toNat 0)=0 from rfl,h0];rfl),?_⟩
  walk_at "n1"
  refine⟨_,_,rfl,⟨by rw[List.length_map];omega,by rw[List.length_map];omega,by rw[List.length_map,hl0];have:=g.w1;omega,by rw[List.length_map,hl0];have:=g.w2;omega,by rw[List.length_map,List.length_map,hl0];have:=g.all;exact_mod_cast this⟩,?_⟩
  walk_at "n1"
  refine⟨small (by rw[List.length_map];omega),bA (fun k ys Γc=>ys=(List.range k).map (fun _=>D.bl true)∧∃ s,Γc=[fo s,some (.fz (.int w))]) ⟨rfl,none,by rw[List.length_map,hl0];rfl⟩ ?_ ?_⟩
  ·rintro k d ys Γc hd hk ⟨rfl,s,rfl⟩
   obtain⟨r,hr,rfl⟩:=cc hd
   have hm:=List.mem_of_getElem? hr
   walk_at "n1"
   rw[List.length_map,g.len r hm]
   walk_at "n1"
   exact⟨snoc rfl,some _,rfl⟩
  ·rintro ys Γc hk ⟨rfl,s,rfl⟩
   walk_at "n1"
   refine⟨(List.range R.length).map fun _=>true,by rw[List.length_map,List.map_map];rfl,?_⟩
   rw[all_true];exact q
def yW (a:Ad):S3:=fun Γ Q=>∃ (w:Nat) (R:List (List Int)),Γ=[some (.ln (.ins a.aD [] [])),some (.fz (rD R))]∧GR w R∧Q (.fz .non) [some (.ln (fD a R)),some (.fz (rD R))]
theorem dm (T:Txt K mg a):aX P w K mg base CX0 5 a.cG a.cx ["self","rows"] (sp3 K 2 (yW a)):=by
 refine ok3 T.ja hZ (hbody:=fun cdv A outer s H E hr=>⟨_,_,(ai (bR (bF (bE (aA (by rfl) (mX T) (hr.mono (by decide)) (by rfl) T.oH T.kl.kp T.o6 (aa (P3.opd (p3v 1)) ae)))) (aq h_) aW)
   (aq (uC (C0:=a.aD) 0 (by rfl) T.dh T.gE (bv 0) (cF (p8 (by rfl)) (by rfl) T.z_tuple (by decide +kernel) (aa (P3.opd (bU rfl (b9 (by rfl) (p3v 1)) cL (fun _ _ _ _ _=>(aY (i:=0) cL.nd rfl (Or.inl rfl))) (fun _ _ _ _ _=>(cF (p8 (by rfl)) (by rfl) T.z_tuple (by decide +kernel) (aa (bv 0) ae))))) ae))))),fun Γa Q h hl=>?_⟩)
 obtain⟨w,R,rfl,g,q⟩:=h
 have g2:=g.h2
 walk_at "n1"
 refine⟨w,R,rfl,g,?_⟩
 walk_at "n1"
 refine⟨small (by rw[List.length_map];omega),bA (fun k ys Γc=>ys=(R.take k).map tD∧∃ s,Γc=[fo s]) ⟨rfl,none,rfl⟩ ?_ ?_⟩
 ·rintro k d ys Γc hd hk ⟨rfl,s,rfl⟩
  obtain⟨r,hr,rfl⟩:=cc hd
  walk_at "n1"
  exact⟨by rw[take_snoc hr,List.map_append];rfl,some _,rfl⟩
 ·rintro ys Γc hk ⟨rfl,s,rfl⟩
  walk_at "n1"
  rw[List.take_of_length_le (by rw[List.length_map];exact Nat.le_refl _)]
  exact⟨by decide,q⟩
def vP (a:Ad):S3:=fun Γ Q=>∃ (w:Nat) (R:List (List Int)),Γ=[some (.fz (fD a R))]∧GR w R∧Q (.fr (rD R)) Γ
theorem cj (T:Txt K mg a):aX P w K mg base CX0 1 a.eI a.dA ["self"] (sp3 K 1 (vP a)):=by
 refine ok3 T.mD ko (hbody:=fun cdv A outer s H E hr=>⟨_,_,(aq (aG (bU rfl (yZ (by rfl) (vf (f:="grid") (by rfl) (bv 0) T.dh T.gE)) dR (fun _ _ _ _ _=>(aY (i:=0) dR.nd rfl (Or.inl rfl))) (fun _ _ _ _ _=>(cF (tZ (by rfl)) (by rfl) T.z_list (by decide +kernel) (aa (bv 0) ae)))))),fun Γa Q h hl=>?_⟩)
 obtain⟨w,R,rfl,g,q⟩:=h
 have g2:=g.h2
 walk_at "n1"
 refine⟨small (by rw[List.length_map];omega),bA (fun k ys Γc=>ys=(R.take k).map il∧∃ s,Γc=[fo s]) ⟨rfl,none,rfl⟩ ?_ ?_⟩
 ·rintro k d ys Γc hd hk ⟨rfl,s,rfl⟩
  obtain⟨r,hr,rfl⟩:=cc hd
  walk_at "n1"
  exact⟨by rw[take_snoc hr,List.map_append];rfl,some _,rfl⟩
 ·rintro ys Γc hk ⟨rfl,s,rfl⟩
  walk_at "n1"
  rw[List.take_of_length_le (by rw[List.length_map];exact Nat.le_refl _)]
  exact q
abbrev bl1:Str:=Str.ofString " "
abbrev bl2:Str:=Str.ofString "; "
def rtx (r:List Int):Str:=Txt.join bl1 (r.map itx)
def ftx (R:List (List Int)):Str:=Txt.join bl2 (R.map rtx)
theorem lJ:sg bl1=[32]:=by decide +kernel
theorem lI:sg bl2=[59,32]:=by decide +kernel
theorem et {n:Int} (h:-1000000000000000 < n∧n < 1000000000000000):n.natAbs < 10 ^ 15:=by omega
theorem n9 (r:List Int):sg (rtx r)=jn [32] (r.map fun n=>sg (itx n)):=by
 unfold rtx
 rw[jC,lJ,List.map_map];rfl
theorem oQ (R:List (List Int)):sg (ftx R)=jn [59,32] (R.map fun r=>sg (rtx r)):=by
 unfold ftx
 rw[jC,lI,List.map_map];rfl
theorem jD {r:List Int} (h:Fig r) (hl:r.length≤64):(rtx r).length≤1088:=by
 rw[← bu,n9]
 have:=j4 (sep:=[32]) (m:=16) (xs:=r.map fun n=>sg (itx n)) fun x hx=>by
  obtain⟨n,hn,rfl⟩:=List.mem_map.mp hx
  rw[bu];exact er (et (h n hn))
 rw[List.length_map] at this
 simp only[List.length_cons,List.length_nil] at this
 omega
theorem p4 {w:Nat} {R:List (List Int)} (g:GR w R):(ftx R).length≤69760:=by
 rw[← bu,oQ]
 have:=j4 (sep:=[59,32]) (m:=1088) (xs:=R.map fun r=>sg (rtx r)) fun x hx=>by
  obtain⟨r,hr,rfl⟩:=List.mem_map.mp hx
  rw[bu];exact jD (g.fig r hr) (by rw[g.len r hr];exact g.w2)
 rw[List.length_map] at this
 simp only[List.length_cons,List.length_nil] at this
 have:=g.h2
 omega
theorem jok {sep:Str} {ws:List Str} {m:Nat} (h:∀ x∈ws,x.length + sep.length≤m) (hm:ws.length * m≤1000000):JoinOk sep ws=true:=by
 have go:∀ (ws:List Str) (n:Nat),(∀ x∈ws,x.length + sep.length≤m)→ws.foldl (fun n x=>n + x.length + sep.length) n≤n + ws.length * m:=by
  intro ws
  induction ws with
  | nil=>intro n _;simp
  | cons x ws ih=>
   intro n h
   have:=ih (n + x.length + sep.length) fun y hy=>h y (List.mem_cons_of_mem _ hy)
   have:=h x (by simp)
   rw[List.foldl_cons,List.length_cons,Nat.add_mul]
   omega
 unfold JoinOk Builtin.Str.tooLong
 rw[List.foldl_toArray]
 have:=go ws 0 h
 simp only[Bool.not_eq_true',decide_eq_false_iff_not,sizeLine_eq]
 omega
theorem yR {r:List Int} (h:Fig r) (hl:r.length≤64):JoinOk bl1 (r.map itx)=true:=jok (m:=17) (fun x hx=>by
 obtain⟨n,hn,rfl⟩:=List.mem_map.mp hx
 have:=er (et (h n hn))
 have:bl1.length=1:=by rw[← bu,lJ];rfl
 omega) (by rw[List.length_map];omega)
theorem xO {w:Nat} {R:List (List Int)} (g:GR w R):JoinOk bl2 (R.map rtx)=true:=jok (m:=1090) (fun x hx=>by
 obtain⟨r,hr,rfl⟩:=List.mem_map.mp hx
 have:=jD (g.fig r hr) (by rw[g.len r hr];exact g.w2)
 have:bl2.length=2:=by rw[← bu,lI];rfl
 omega) (by rw[List.length_map];have:=g.h2;omega)
def Af:S3:=fun Γ Q=>∃ (r:List Int),Γ=[some (.fz (il r))]∧Fig r∧r.length≤64∧Q (.fz (.str (rtx r))) Γ
theorem je (T:Txt K mg a):aX P w K mg base CX0 1 a.gR a.fF ["row"] (sp3 K 1 Af):=by
 refine ok3 T.hU mG (hbody:=fun cdv A outer s H E hr=>⟨_,_,(aq (aG (lR (by rfl) b_ (P3.opd (bU rfl (b9 (by rfl) (p3v 0)) fV (fun _ _ _ _ _=>(aY (i:=0) fV.nd rfl (Or.inl rfl))) (fun _ _ _ _ _=>(cF zu (by rfl) T.z_str (by decide +kernel) (aa (bv 0) ae)))))))),fun Γa Q h hl=>?_⟩)
 obtain⟨r,rfl,hf,hl',q⟩:=h
 walk_at "n1"
 refine⟨small (by rw[List.length_map];omega),bA (fun k ys Γc=>ys=(r.take k).map (fun n=>D.str (itx n))∧∃ s,Γc=[fo s]) ⟨rfl,none,rfl⟩ ?_ ?_⟩
 ·rintro k d ys Γc hd hk ⟨rfl,s,rfl⟩
  obtain⟨n,hn,rfl⟩:=cc hd
  have:=hf n (List.mem_of_getElem? hn)
  walk_at "n1"
  exact⟨by omega,by rw[take_snoc hn,List.map_append];rfl,some _,rfl⟩
 ·rintro ys Γc hk ⟨rfl,s,rfl⟩
  walk_at "n1"
  rw[List.take_of_length_le (by rw[List.length_map];exact Nat.le_refl _)]
  exact⟨r.map itx,by rw[List.map_map];rfl,yR hf hl',q⟩
def Bd (a:Ad):S3:=fun Γ Q=>∃ (w:Nat) (R:List (List Int)),Γ=[some (.fz (fD a R))]∧GR w R∧Q (.fz (.str (ftx R))) Γ
theorem gD (T:Txt K mg a):aX P w K mg base CX0 5 a.cQ a.cK ["field"] (sp3 K 1 (Bd a)):=by
 refine ok3 T.cA gA (hbody:=fun cdv A outer s H E hr=>⟨_,_,(ai (bR (bF (bE (av (t5 (by rfl) T.j6) (by rfl) T.z_isinstance (by decide +kernel) (aa (bv 0) (aa (P3.opd (ir (by rfl) T.fy)) ae))))) (aq h_) aW)
   (aq (aG (lR (by rfl) b_ (P3.opd (bU rfl (b9 (by rfl) (fu (by rfl) (bv 0) T.dh T.ck (cj T) (hr.mono (by decide)) T.cy)) dQ (fun _ _ _ _ _=>(aY (i:=0) dQ.nd rfl (Or.inl rfl))) (fun _ _ _ _ _=>(aA (by rfl) (je T) (hr.mono (by decide)) (by rfl) T.jZ T.hU.kp T.ke (aa (P3.opd (p3v 0)) ae))))))))),fun Γa Q h hl=>?_⟩)
 obtain⟨w,R,rfl,g,q⟩:=h
 have g2:=g.h2
 walk_at "n1"
 refine⟨true,mV,?_⟩
 walk_at "n1"
 refine⟨by decide +kernel,w,R,rfl,g,?_⟩
 walk_at "n1"
 refine⟨small (by rw[List.length_map];omega),bA (fun k ys Γc=>ys=(R.take k).map (fun r=>D.str (rtx r))∧∃ s,Γc=[fo s]) ⟨rfl,none,rfl⟩ ?_ ?_⟩
 ·rintro k d ys Γc hd hk ⟨rfl,s,rfl⟩
  obtain⟨r,hr,rfl⟩:=cc hd
  have hm:=List.mem_of_getElem? hr
  walk_at "n1"
  refine⟨r,rfl,g.fig r hm,by rw[g.len r hm];exact g.w2,?_⟩
  walk_at "n1"
  exact⟨by rw[take_snoc hr,List.map_append];rfl,some _,rfl⟩
 ·rintro ys Γc hk ⟨rfl,s,rfl⟩
  walk_at "n1"
  rw[List.take_of_length_le (by rw[List.length_map];exact Nat.le_refl _)]
  exact⟨R.map rtx,by rw[List.map_map];rfl,xO g,q⟩
theorem dH (T:Txt K mg a):aX P w K mg base CX0 1 a.bW a.bO ["self","words"] (Cg K):=by
 refine T.cB.ok dD (fun vs H Q E h=>by obtain⟨e,C,dx,y,rfl,_⟩:=h;rfl) fun cdv A outer s H vs Q E hr h=>⟨_,jE (jF (rY (by rfl) T.z_ValueError (cJ (fk (i:=0) rfl (.inl rfl)) (cJ (fk (i:=1) rfl (.inl rfl)) fm)))),?_⟩
 obtain⟨e,C,dx,y,rfl,mk,q,hQ⟩:=h
 exact⟨.ref e,rfl,y,rfl,e,C,dx,y,rfl,mk,q,hQ⟩
theorem gp (T:Txt K mg a):aX P w K mg base CX0 2 a.cq a.cb ["self","found"] (ur K a.ak ["found"]):=by
 refine T.hV.ok gn (fun vs H Q E h=>by obtain⟨e,ys,rfl,hl,_⟩:=h;simpa using hl) fun cdv A outer s H vs Q E hr h=>⟨_,jW (jF (u9 (E:=E0) (ds:=[]) (dvs:=[]) T.CJ T.CM T.CN T.cB.kp (by rfl) T.fx (dH T) hr T.eM .nil kM (cJ (fk (i:=0) rfl (.inl rfl)) (cJ rZ fm))))
  (jE (uR (fk (i:=0) rfl (.inl rfl)) (fk (i:=1) rfl (.inl rfl)) (by rfl))),?_⟩
 obtain⟨e,ys,rfl,hl,q,hQ⟩:=h
 obtain⟨y,rfl⟩:∃ y,ys=[y]:=by
  match ys,hl with
  | [y],_=>exact⟨y,rfl⟩
 exact⟨.ref e,rfl,e,a.ak,none,_,rfl,T.jO.makes,q,y,rfl,.ref e,rfl,e,a.ak,rfl,T.nP,T.iM,.inl ⟨q,fun d hd ne=>hQ d hd ne⟩⟩
def za (a:Ad):S3X:=fun Γ Q W=>∃ (d:D),Γ=[some (.fz d)]∧oo a.aD d=some false∧W ⟨a.ak,["found"],[d]⟩ Γ
theorem jv (T:Txt K mg a):aX P w K mg base (CX1 P w base) 5 a.cQ a.cK ["field"] (qp K 1 (za a)):=by
 refine Cw T.cA gA (hbody:=fun cdv A outer s H E hr=>⟨_,_,(fun B F0 W xr=>(uf (zL (bF (bE (av (t5 (by rfl) T.j6) (by rfl) T.z_isinstance (by decide +kernel) (aa (bv 0) (aa (P3.opd (ir (by rfl) T.fy)) ae))))) (nQ (qZ (by rfl) xr T.jO (gp T) (hr.mono (by decide)) (by rfl) T.j3 T.g_ uK (by decide) (ah (p3v 0) aH))) (aW).x)
   (nQ (P3S.x (aG (lR (by rfl) b_ (P3.opd (bU rfl (b9 (by rfl) (fu (by rfl) (bv 0) T.dh T.ck (cj T) (hr.mono (by decide)) T.cy)) dP (fun _ _ _ _ _=>(aY (i:=0) dP.nd rfl (Or.inl rfl))) (fun _ _ _ _ _=>(aA (by rfl) (je T) (hr.mono (by decide)) (by rfl) T.jZ T.hU.kp T.ke (aa (P3.opd (p3v 0)) ae))))))))))),fun Γa Q W3 h hl=>?_⟩)
 obtain⟨d,rfl,ho,q⟩:=h
 walk_at "n1"
 refine⟨false,ho,?_⟩
 walk_at "n1"
 exact q
def uU:S3:=fun Γ Q=>∃ (n:Int),Γ=[some (.fz (.str (itx n))),some (.fz (.int 15))]∧n.natAbs < 10 ^ 15∧Q (.fz (.bl true)) Γ
theorem mW (T:Txt K mg a):aX P w K mg base CX0 1 a.gU a.fH ["word","most"] (sp3 K 2 uU):=by
 refine ok3 T.kj jb (hbody:=fun cdv A outer s H E hr=>⟨_,_,(ai (bR (bc (eK (by rfl) hr) (bv 0) (P3.opd b_) (bg _)) (aq (aG dF)) aW)
   (ai (aP (i:=2) jb.nd rfl (Or.inl rfl) (yi (by rfl) (p3v 0) b_))
   (ai (bR (P3W.pt (d8 (bF (kN kd kd (P3.opd af) (P3.opd (av (jk (by rfl)) (by rfl) T.z_len (by decide +kernel) (aa (bv 2) ae))) (bv 1))) (d7 (bc (eK (by rfl) hr) (P3.opd (b7 (by rfl) (bv 2) (P3.opd af) (fun _ _=>rfl))) (P3.opd b_) (bg _))))) (aq (aG dF)) aW)
   (aq (aG (av (nz (by rfl) rfl) (by rfl) T.z_all (by decide +kernel) (aa (P3.opd (bU rfl (y0 (p3v 2)) fW (fun _ _ _ _ _=>(aY (i:=0) fW.nd rfl (Or.inl rfl))) (fun _ _ _ _ _=>(iR zw (bv 0) (P3.opd (ve (i:=Str.ofString "0123456789") (by rfl) T.qR)) (by with_unfolding_all rfl))))) ae))))))),fun Γa Q h hl=>?_⟩)
 obtain⟨n,rfl,hn,q⟩:=h
 walk_at "n1"
 refine fZ (fun h=>?_) (fun h=>?_)
 ·walk_at "n1"
  exact q
 ·walk_at "n1"
  have e:sg (Txt.removeprefix (itx n) (Str.ofString "-"))=dg n.natAbs:=vE
  have il:=er hn
  have n0:n.natAbs≠0:=fun z=>by
   have z':n=0:=by omega
   subst z'
   revert h
   decide +kernel
  generalize Txt.removeprefix (itx n) (Str.ofString "-")=z at e ⊢
  have zl:z.length=(dg n.natAbs).length:=by rw[← bu,e]
  have l1:=oU n.natAbs
  have l2:=jL 14 _ hn
  obtain⟨c,r,ec,hc⟩:=vT n0
  refine⟨bC (by omega),bC (by omega),?_⟩
  rw[show iY 1 (z.length:Int)=true by simp only[iY,decide_eq_true_eq];omega,show iY (z.length:Int) 15=true by simp only[iY,decide_eq_true_eq];omega]
  walk_at "n1"
  refine⟨bC (by omega),c,f_ (by decide) (by show (sg z)[0]?=_;rw[e,ec];rfl),?_⟩
  walk_at "n1"
  rw[show ((⟨#[c]⟩:Str) == Str.ofString "0")=false by
   rw[beq_eq_false_iff_ne]
   intro q
   have q2:sg ⟨#[c]⟩=sg (Str.ofString "0"):=by rw[q]
   rw[show sg (Str.ofString "0")=[48] by decide +kernel] at q2
   exact hc (by simpa [sg] using q2)]
  walk_at "n1"
  have all:∀ k∈sg z,48≤k∧k≤57:=by rw[e];exact i4 _
  refine⟨by
   unfold asc
   rw[← Array.all_toList,List.all_eq_true]
   intro k hk
   have:=all k hk
   simp;omega,small (by rw[iQ];show z.length≤_;omega),bA (fun k ys Γc=>ys=(List.range k).map (fun _=>D.bl true)∧∃ s,Γc=[fo s]) ⟨rfl,none,rfl⟩ ?_ ?_⟩
  ·rintro k d ys Γc hd hk ⟨rfl,s,rfl⟩
   obtain⟨x,hx,rfl⟩:=cc hd
   walk_at "n1"
   have hx':=all x (List.mem_of_getElem? hx)
   rw[show inT (sgn x) (Str.ofString "0123456789")=true from vJ hx']
   exact⟨snoc rfl,some _,rfl⟩
  ·rintro ys Γc hk ⟨rfl,s,rfl⟩
   walk_at "n1"
   refine⟨(List.range (signs z).length).map fun _=>true,by rw[List.map_map];rfl,?_⟩
   rw[all_true];exact q
theorem oN {sep:List Nat} {c:Nat}:∀ {xs:List (List Nat)},c∈jn sep xs→c∈sep∨∃ x∈xs,c∈x
 | [],h=>nomatch h
 | [x],h=>.inr ⟨x,by simp,h⟩
 | x::y::r,h=>by
  rcases List.mem_append.mp h with h | h
  ·exact .inr ⟨x,by simp,h⟩
  ·rcases List.mem_append.mp h with h | h
   ·exact .inl h
   ·rcases oN (xs:=y::r) h with h | ⟨z,hz,h⟩
    ·exact .inl h
    ·exact .inr ⟨z,List.mem_cons_of_mem _ hz,h⟩
theorem kI {r:List Int} {c:Nat} (h:c∈sg (rtx r)):c=32∨c=45∨(48≤c∧c≤57):=by
 rw[n9] at h
 rcases oN h with h | ⟨x,hx,h⟩
 ·exact .inl (by simpa using h)
 ·obtain⟨n,hn,rfl⟩:=List.mem_map.mp hx
  exact .inr (kQ h)
theorem n4 {w:Nat} {R:List (List Int)} (g:GR w R):Txt.split (ftx R) (Str.ofString "; ")=R.map rtx:=by
 refine jU (c:=59) (cs:=[32]) lI (by decide +kernel) (fun z=>?_) fun x hx=>?_
 ·have:=g.h1
  rw[List.map_eq_nil_iff] at z
  rw[z] at this;simp at this
 ·obtain⟨r,hr,rfl⟩:=List.mem_map.mp hx
  intro h
  have:=kI h
  omega
theorem qo {r:List Int} (h:1≤r.length):Txt.split (rtx r) (Str.ofString " ")=r.map itx:=by
 refine jU (c:=32) (cs:=[]) lJ (by decide +kernel) (fun z=>?_) fun x hx=>?_
 ·rw[List.map_eq_nil_iff] at z
  rw[z] at h;simp at h
 ·obtain⟨n,hn,rfl⟩:=List.mem_map.mp hx
  intro h
  have:=kQ h
  omega
def xS (a:Ad):S3:=fun Γ Q=>∃ (w:Nat) (R:List (List Int)),Γ=[some (.fz (.str (ftx R)))]∧GR w R∧Q (.fr (fD a R)) Γ
theorem gC (T:Txt K mg a):aX P w K mg base CX0 7 a.eH a.dz ["text"] (sp3 K 1 (xS a)):=by
 refine ok3 T.eQ cI (hbody:=fun cdv A outer s H E hr=>⟨_,_,(ai (bR (bF (bE (av (xg T.tys) (by rfl) T.z_isinstance (by decide +kernel) (aa (bv 0) (aa (P3.opd (kO (n:="str") (by rfl) T.z_str (by decide +kernel))) ae))))) (aq h_) aW)
   (ai (aP (i:=1) cI.nd rfl (Or.inl rfl) (dv aH))
   (ai (gK PassesOwn.never rfl (b9 (by rfl) (mT (by rfl) (p3v 0) b_)) (aY (i:=2) cI.nd rfl (Or.inl rfl))
   (ai (aP (i:=3) cI.nd rfl (Or.inl rfl) (mT (by rfl) (p3v 2) b_))
   (ai (bR (bF (bE (av (nz (by rfl) rfl) (by rfl) T.z_all (by decide +kernel) (aa (P3.opd (bU rfl (b9 (by rfl) (p3v 3)) dN (fun _ _ _ _ _=>(aY (i:=0) dN.nd rfl (Or.inl rfl))) (fun _ _ _ _ _=>(aA (by rfl) (mW T) (hr.mono (by decide)) (by rfl) T.oG T.kj.kp T.o5 (aa (P3.opd (p3v 0)) (aa (P3.opd (eg (i:=15) (by rfl) T.kb)) ae)))))) ae)))) (aq h_) aW)
   (aq (pE (kP 1 (by rfl) (bv 1) (bU rfl (b9 (by rfl) (p3v 3)) dO (fun _ _ _ _ _=>(aY (i:=0) dO.nd rfl (Or.inl rfl))) (fun _ _ _ _ _=>(cF zv (by rfl) T.z_int (by decide +kernel) (aa (bv 0) ae))))))))))
   (aq (uA (aq (aG (pP T.mk_Field (dm T) (hr.mono (by decide)) (by rfl) T.fy T.dX (ah (p3v 1) aH))))))))),fun Γa Q h hl=>?_⟩)
 obtain⟨w,R,rfl,g,q⟩:=h
 have g2:=g.h2
 have g3:=g.w1
 have g4:=g.w2
 walk_at "n1"
 rw[n4 g]
 refine⟨Nat.zero_le _,by decide +kernel,bC (Nat.le_trans (p4 g) (by decide)),bC (by rw[List.length_map];omega),?_⟩
 refine cZ (fun k Γ=>∃ s s',Γ=[some (.fz (.str (ftx R))),some (.ow (.lst ((R.take k).map il))),fo s,fo s']) ⟨none,none,rfl⟩ ?_ ?_
 ·rintro k d Γ hd ⟨s,s',rfl⟩
  rw[List.map_map] at hd
  obtain⟨r,hr,rfl⟩:=cc hd
  have hm:=List.mem_of_getElem? hr
  have rl:=g.len r hm
  have rf:=g.fig r hm
  dsimp only[Function.comp]
  walk_at "n1"
  rw[qo (by omega)]
  refine⟨by decide +kernel,bC (Nat.le_trans (jD rf (by omega)) (by decide)),bC (by rw[List.length_map];omega),?_⟩
  refine⟨small (by rw[List.length_map,List.length_map];omega),bA (fun k ys Γc=>ys=(List.range k).map (fun _=>D.bl true)∧∃ s,Γc=[fo s]) ⟨rfl,none,rfl⟩ ?_ ?_⟩
  ·rintro j d ys Γc hd hk ⟨rfl,s,rfl⟩
   rw[List.map_map] at hd
   obtain⟨n,hn,rfl⟩:=cc hd
   dsimp only[Function.comp]
   walk_at "n1"
   refine⟨n,rfl,et (rf n (List.mem_of_getElem? hn)),?_⟩
   walk_at "n1"
   exact⟨snoc rfl,some _,rfl⟩
  ·rintro ys Γc hk ⟨rfl,s,rfl⟩
   walk_at "n1"
   refine⟨(List.range (List.map D.str (List.map itx r)).length).map fun _=>true,zR,?_⟩
   rw[all_true]
   walk_at "n1"
   refine⟨small (by rw[List.length_map,List.length_map];omega),bA (fun k ys Γc=>ys=(r.take k).map .int∧∃ s,Γc=[fo s]) ⟨rfl,none,rfl⟩ ?_ ?_⟩
   ·rintro j d ys Γc hd hk ⟨rfl,s,rfl⟩
    rw[List.map_map] at hd
    obtain⟨n,hn,rfl⟩:=cc hd
    have na:=et (rf n (List.mem_of_getElem? hn))
    dsimp only[Function.comp]
    walk_at "n1"
    exact⟨n,vF na,Nat.le_trans (er na) (by decide),by rw[take_snoc hn,List.map_append];rfl,some _,rfl⟩
   ·rintro ys Γc hk ⟨rfl,s,rfl⟩
    walk_at "n1"
    exact⟨small (by rw[List.length_map,List.length_take];omega),some _,some _,by rw[List.take_of_length_le (l:=r) (by rw[List.length_map,List.length_map];exact Nat.le_refl _),take_snoc hr,List.map_append];rfl⟩
 ·rintro Γ ⟨s,s',rfl⟩
  walk_at "n1"
  rw[List.take_of_length_le (by rw[List.length_map,List.length_map];exact Nat.le_refl _)]
  refine⟨w,R,rfl,g,?_⟩
  walk_at "n1"
  exact q
def zq:S3:=fun Γ Q=>∃ (ns:List Int) (k:Int),Γ=[some (.fz (.scr ns)),some (.fz (.int k))]∧0≤k∧∀ r,Q (.fz (.int r)) Γ
theorem lW (T:Txt K mg a):aX P w K mg base CX0 1 a.fP a.eF ["_law_script","_law_k"] (sp3 K 2 zq):=by
 refine ok3 T.ju lL (hbody:=fun cdv A outer s H E hr=>⟨_,_,(ai (bR (bc t6 (bv 1) (P3.opd (av (jk (by rfl)) (by rfl) T.z_len (by decide +kernel) (aa (bv 0) ae))) (bg _)) (aq (aG (b7 (by rfl) (bv 0) (bv 1) (fun _ _=>rfl)))) aW)
   (aq (aG (bV (P3.opd (cN (P3.opd af) (bv 1))) (P3.opd af))))),fun Γa Q h hl=>?_⟩)
 obtain⟨ns,k,rfl,hk,q⟩:=h
 walk_at "n1"
 refine fZ (fun h=>?_) (fun h=>?_)
 ·walk_at "n1"
  exact⟨_,v8 hk (of_decide_eq_true h),q _⟩
 ·walk_at "n1"
  exact⟨.inl ⟨by decide,by decide⟩,q _⟩
def Box (c:Int) (d:D):Prop:=∃ x m k:Int,d=.lst [.int x,.int m,.int k]∧0≤x∧0≤m∧m < 2147483647∧0≤k∧k≤c
def Bz:S3:=fun Γ Q=>∃ (x:Int),Γ=[some (.fz (.int x))]∧∀ d,Box 0 d→Q (.fr d) Γ
theorem mY (T:Txt K mg a):aX P w K mg base CX0 1 a.gX a.fJ ["_law_cell_here"] (sp3 K 1 Bz):=by
 refine ok3 T.km mJ (hbody:=fun cdv A outer s H E hr=>⟨_,_,(aq (aG (dv (ah (av (xc rfl) (by rfl) T.z_max (by decide +kernel) (aa (P3.opd af) (aa (P3.opd (fq (bv 0) (P3.opd (ft (v:=1000000000000000000) (by decide +kernel) ⟨by decide,by decide,by decide⟩)))) ae))) (ah (d_ (bv 0) (P3.opd af)) (ah af aH)))))),fun Γa Q h hl=>?_⟩)
 obtain⟨x,rfl,q⟩:=h
 walk_at "n1"
 exact⟨by decide,by rw[sizeLine_eq];omega,q _ ⟨_,_,_,rfl,by unfold fmax;split <;> omega,Int.emod_nonneg _ (by decide),Int.emod_lt_of_pos _ (by decide),by decide,by decide⟩⟩
def xv:S3:=fun Γ Q=>∃ (d:D) (c n:Int),Γ=[some (.ln d),some (.fz (.int n))]∧Box c d∧c≤1000000∧0 < n∧n≤1000000000∧∀ r d',0≤r→r < n→Box (c + 1) d'→Q (.fz (.int r)) [some (.ln d'),some (.fz (.int n))]
theorem aI (T:Txt K mg a):aX P w K mg base CX0 1 a.fM a.eC ["_law_box_here","_law_many"] (sp3 K 2 xv):=by
 refine ok3 T.aK cu (hbody:=fun cdv A outer s H E hr=>⟨_,_,(ai (bR (bc nB (P3.opd (b7 (by rfl) (bv 0) (P3.opd af) (fun _ _=>rfl))) (P3.opd af) (bg _)) (ai (aP (i:=2) cu.nd rfl (Or.inl rfl) (d_ (P3.opd (b7 (by rfl) (bv 0) (P3.opd af) (fun _ _=>rfl))) (bv 1)))
   (ai (mK 0 (bv 0) (P3.opd af) (jG (P3.opd (b7 (by rfl) (bv 0) (P3.opd af) (fun _ _=>rfl))) (bv 1)))
   (aq (aG (yh 2))))) aW)
   (ai (mK 0 (bv 0) (P3.opd af) (bV (P3.opd (b7 (by rfl) (bv 0) (P3.opd af) (fun _ _=>rfl))) (P3.opd af)))
   (ai (aP (i:=3) cu.nd rfl (Or.inl rfl) (bV (P3.opd (bV (P3.opd (cN (P3.opd (b7 (by rfl) (bv 0) (P3.opd af) (fun _ _=>rfl))) (P3.opd (bV (P3.opd af) (P3.opd (cN (P3.opd af) (P3.opd (b7 (by rfl) (bv 0) (P3.opd af) (fun _ _=>rfl))))))))) (P3.opd (cN (P3.opd af) (P3.opd (b7 (by rfl) (bv 0) (P3.opd af) (fun _ _=>rfl))))))) (P3.opd af)))
   (ai (aP (i:=4) cu.nd rfl (Or.inl rfl) (d_ (P3.opd (pO (bv 3) (P3.opd af))) (P3.opd af)))
   (ai (aP (i:=4) cu.nd rfl (Or.inl rfl) (d_ (P3.opd (cN (P3.opd (bV (bv 4) (P3.opd (cN (P3.opd af) (P3.opd (b7 (by rfl) (bv 0) (P3.opd af) (fun _ _=>rfl))))))) (P3.opd (bV (bv 4) (P3.opd af))))) (P3.opd af)))
   (aq (aG (d_ (P3.opd (jG (bv 4) (P3.opd af))) (bv 1))))))))),fun Γa Q h hl=>?_⟩)
 obtain⟨_,c,n,rfl,⟨x,m,k,rfl,hx,hm,hm2,hk,hk2⟩,hc,hn,hn2,q⟩:=h
 walk_at "n1"
 refine fZ (fun e=>?_) (fun e=>?_)
 ·walk_at "n1"
  exact⟨hn,⟨hn,by omega⟩,q _ _ (Int.emod_nonneg _ (by omega)) (Int.emod_lt_of_pos _ hn) ⟨_,_,_,rfl,Int.ediv_nonneg hx (by omega),hm,hm2,hk,by omega⟩⟩
 ·walk_at "n1"
  have p1:0≤m * (48271 + 2 * (k + 1)):=Int.mul_nonneg hm (by omega)
  have p2:m * (48271 + 2 * (k + 1))≤2147483647 * (48271 + 2 * (k + 1)):=Int.mul_le_mul_of_nonneg_right (by omega) (by omega)
  refine⟨.inl ⟨by decide,by decide⟩,.inl ⟨by omega,by omega⟩,.inl ⟨by decide,by decide⟩,⟨by decide,by decide,?_⟩,?_⟩
  ·show (m * (48271 + 2 * (k + 1)) + 7919 * (k + 1) + 11).natAbs < 2 ^ 64
   omega
  generalize hy:(m * (48271 + 2 * (k + 1)) + 7919 * (k + 1) + 11) ^ Int.toNat 5 % 2147483629=y
  have hy0:0≤y:=by rw[← hy];exact Int.emod_nonneg _ (by decide)
  have hy1:y < 2147483629:=by rw[← hy];exact Int.emod_lt_of_pos _ (by decide)
  exact⟨by decide,.inl ⟨by decide,by decide⟩,.inr ⟨by omega,by omega⟩,by decide,⟨by decide,by decide⟩,hn,q _ _ (Int.emod_nonneg _ (by omega)) (Int.emod_lt_of_pos _ hn) ⟨_,_,_,rfl,hx,hm,hm2,by omega,by omega⟩⟩
theorem pick {p:D→Prop} {xs:List D} {r:Int} {k:D→Prop} {t:Tag k} (h0:0≤r) (h1:r < (xs.length:Int)) (hp:∀ x∈xs,p x) (q:∀ v,p v→k v):m1 (atI xs r) k t:=by
 obtain⟨d,h2,h3⟩:=v_ h0 h1
 exact jf.mpr ⟨d,h2,q d (hp d h3)⟩
theorem Box.up {c c':Int} {d:D} (b:Box c d) (h:c≤c'):Box c' d:=by
 obtain⟨x,m,k,e,h1,h2,h3,h4,h5⟩:=b
 exact⟨x,m,k,e,h1,h2,h3,h4,Int.le_trans h5 h⟩
def yw:S3:=fun Γ Q=>∃ (d:D) (c:Int),Γ=[some (.ln d)]∧Box c d∧c≤900000∧∀ r d',-1000000000000000 < r→r < 1000000000000000→Box (c + 4) d'→Q (.fz (.int r)) [some (.ln d')]
theorem jX (T:Txt K mg a):aX P w K mg base CX0 2 a.dC a.dc ["_law_box_here"] (sp3 K 1 yw):=by
 refine ok3 T.gI cY (hbody:=fun cdv A outer s H E hr=>⟨_,_,(ai (aP (i:=1) cY.nd rfl (Or.inl rfl) (aA (by rfl) (aI T) (hr.mono (by decide)) (by rfl) T.aL T.aK.kp T.aM (aa (bv 0) (aa (P3.opd af) ae))))
   (ai (bR (bc (eK (by rfl) hr) (bv 1) (P3.opd af) (bg _)) (aq (aG (fq (P3.opd (aA (by rfl) (aI T) (hr.mono (by decide)) (by rfl) T.aL T.aK.kp T.aM (aa (bv 0) (aa (P3.opd af) ae)))) (P3.opd af)))) aW)
   (ai (bR (bc (eK (by rfl) hr) (bv 1) (P3.opd af) (bg _)) (aq (aG (b7 (by rfl) (P3.opd (dv (ah (fq (P3.opd (ft (v:=1000000000000000) (by decide +kernel) ⟨by decide,by decide,by decide⟩)) (P3.opd af)) (ah (fq (P3.opd af) (P3.opd (ft (v:=1000000000000000) (by decide +kernel) ⟨by decide,by decide,by decide⟩))) (ah af (ah (sk (P3.opd af)) aH)))))) (P3.opd (aA (by rfl) (aI T) (hr.mono (by decide)) (by rfl) T.aL T.aK.kp T.aM (aa (bv 0) (aa (P3.opd af) ae)))) (fun _ _=>rfl)))) aW)
   (ai (bR (bc (eK (by rfl) hr) (bv 1) (P3.opd af) (bg _)) (ai (aP (i:=2) cY.nd rfl (Or.inl rfl) (bV (P3.opd (cN (P3.opd (aA (by rfl) (aI T) (hr.mono (by decide)) (by rfl) T.aL T.aK.kp T.aM (aa (bv 0) (aa (P3.opd (ft (v:=100000000) (by decide +kernel) ⟨by decide,by decide,by decide⟩)) ae)))) (P3.opd (ft (v:=10000000) (by decide +kernel) ⟨by decide,by decide,by decide⟩)))) (P3.opd (aA (by rfl) (aI T) (hr.mono (by decide)) (by rfl) T.aL T.aK.kp T.aM (aa (bv 0) (aa (P3.opd (ft (v:=10000000) (by decide +kernel) ⟨by decide,by decide,by decide⟩)) ae))))))
   (aq (aG (b7 (by rfl) (P3.opd (dv (ah (p3v 2) (ah (fq (P3.opd af) (bv 2)) aH)))) (P3.opd (aA (by rfl) (aI T) (hr.mono (by decide)) (by rfl) T.aL T.aK.kp T.aM (aa (bv 0) (aa (P3.opd af) ae)))) (fun _ _=>rfl))))) aW)
   (aq (aG (fq (P3.opd (aA (by rfl) (aI T) (hr.mono (by decide)) (by rfl) T.aL T.aK.kp T.aM (aa (bv 0) (aa (P3.opd af) ae)))) (P3.opd af)))))))),fun Γa Q h hl=>?_⟩)
 obtain⟨d,c,rfl,hb,hc,q⟩:=h
 walk_at "n1"
 refine⟨_,_,5,rfl,hb,by omega,by decide,by decide,fun r1 d1 l1 u1 b1=>?_⟩
 walk_at "n1"
 refine fZ (fun h=>?_) (fun h0=>?_)
 ·walk_at "n1"
  refine⟨_,_,21,rfl,b1,by omega,by decide,by decide,fun r2 d2 l2 u2 b2=>?_⟩
  walk_at "n1"
  exact q _ _ (by omega) (by omega) (b2.up (by omega))
 walk_at "n1"
 refine fZ (fun h=>?_) (fun h1=>?_)
 ·walk_at "n1"
  refine⟨by rw[sizeLine_eq];omega,_,_,4,rfl,b1,by omega,by decide,by decide,fun r2 d2 l2 u2 b2=>?_⟩
  walk_at "n1"
  refine pick (p:=fun v=>∃ i:Int,v=.int i∧-1000000000000000 < i∧i < 1000000000000000) l2 u2 ?_ ?_
  ·intro v hv
   simp only[List.mem_cons,List.not_mem_nil,or_false] at hv
   rcases hv with rfl | rfl | rfl | rfl <;> exact⟨_,rfl,by decide,by decide⟩
  ·rintro _ ⟨i,rfl,h1,h2⟩
   walk_at "n1"
   exact q _ _ h1 h2 (b2.up (by omega))
 walk_at "n1"
 refine fZ (fun h=>?_) (fun h2=>?_)
 ·walk_at "n1"
  refine⟨_,_,100000000,rfl,b1,by omega,by decide,by decide,fun r2 d2 l2 u2 b2=>?_⟩
  walk_at "n1"
  refine⟨.inr ⟨by decide,by decide⟩,_,_,10000000,rfl,b2,by omega,by decide,by decide,fun r3 d3 l3 u3 b3=>?_⟩
  walk_at "n1"
  refine⟨by rw[sizeLine_eq];omega,_,_,2,rfl,b3,by omega,by decide,by decide,fun r4 d4 l4 u4 b4=>?_⟩
  walk_at "n1"
  refine pick (p:=fun v=>∃ i:Int,v=.int i∧-1000000000000000 < i∧i < 1000000000000000) l4 u4 ?_ ?_
  ·intro v hv
   simp only[List.mem_cons,List.not_mem_nil,or_false] at hv
   rcases hv with rfl | rfl <;> exact⟨_,rfl,by omega,by omega⟩
  ·rintro _ ⟨i,rfl,h1,h2⟩
   walk_at "n1"
   exact q _ _ h1 h2 (b4.up (by omega))
 walk_at "n1"
 refine⟨_,_,200001,rfl,b1,by omega,by decide,by decide,fun r2 d2 l2 u2 b2=>?_⟩
 walk_at "n1"
 exact q _ _ (by omega) (by omega) (b2.up (by omega))
abbrev pD (h w:Int):D:=.tup [.int h,.int w]
def uu:S3:=fun Γ Q=>∃ (d:D),Γ=[some (.ln d)]∧Box 0 d∧∀ h w d',o9 h w→Box 10 d'→Q (.fz (pD h w)) [some (.ln d')]
theorem z1:1≤sizeLine:=by rw[sizeLine_eq];decide
theorem z2:2≤sizeLine:=by rw[sizeLine_eq];decide
theorem z3:3≤sizeLine:=by rw[sizeLine_eq];decide
theorem z0:0 < sizeLine:=by rw[sizeLine_eq];decide
theorem z4:4≤sizeLine:=by rw[sizeLine_eq];decide
theorem z6:6≤sizeLine:=by rw[sizeLine_eq];decide
theorem six {v:D} (h:v∈[D.tup [.int 64,.int 8],.tup [.int 8,.int 64],.tup [.int 1,.int 64],.tup [.int 64,.int 1],.tup [.int 22,.int 23],.tup [.int 17,.int 30]]):∃ h w,v=pD h w∧o9 h w:=by
 simp only[List.mem_cons,List.not_mem_nil,or_false] at h
 rcases h with rfl | rfl | rfl | rfl | rfl | rfl <;> exact⟨_,_,rfl,by decide,by decide,by decide,by decide,by decide⟩
theorem size_of {x y:Int} (h1:0≤x) (h2:x < 64) (h3:0≤y) (h4:y < fmin 64 (512 / (1 + x))):o9 (1 + x) (1 + y):=by
 have e:fmin 64 (512 / (1 + x))≤64∧fmin 64 (512 / (1 + x))≤512 / (1 + x):=by unfold fmin;split <;> omega
 have e2:(1 + x) * (1 + y)≤(1 + x) * (512 / (1 + x)):=Int.mul_le_mul_of_nonneg_left (by omega) (by omega)
 have e3:(1 + x) * (512 / (1 + x))≤512:=Int.mul_ediv_self_le (by omega)
 exact⟨by omega,by omega,by omega,by omega,by omega⟩
theorem z_ {x y:Int} (h1:0≤x) (h2:x < 9) (h3:0≤y) (h4:y < 9):o9 (1 + x) (1 + y):=by
 have e2:(1 + x) * (1 + y)≤9 * 9:=Int.mul_le_mul (by omega) (by omega) (by omega) (by omega)
 exact⟨by omega,by omega,by omega,by omega,by omega⟩
theorem lU (T:Txt K mg a):aX P w K mg base CX0 2 a.fN a.eD ["_law_box_here"] (sp3 K 1 uu):=by
 refine ok3 T.js d5 (hbody:=fun cdv A outer s H E hr=>⟨_,_,(ai (aP (i:=1) d5.nd rfl (Or.inl rfl) (aA (by rfl) (aI T) (hr.mono (by decide)) (by rfl) T.aL T.aK.kp T.aM (aa (bv 0) (aa (P3.opd af) ae))))
   (ai (bR (bc t6 (bv 1) (P3.opd af) (bg _)) (aq (aG (b7 (by rfl) (P3.opd (dv (ah (d9 (ah af (ah af aH))) (ah (d9 (ah af (ah af aH))) (ah (d9 (ah af (ah af aH))) (ah (d9 (ah af (ah af aH))) (ah (d9 (ah af (ah af aH))) (ah (d9 (ah af (ah af aH))) aH)))))))) (bv 1) (fun _ _=>rfl)))) aW)
   (ai (bR (bc (eK (by rfl) hr) (bv 1) (P3.opd af) (bg _)) (ai (aP (i:=2) d5.nd rfl (Or.inl rfl) (bV (P3.opd af) (P3.opd (aA (by rfl) (aI T) (hr.mono (by decide)) (by rfl) T.aL T.aK.kp T.aM (aa (bv 0) (aa (P3.opd af) ae))))))
   (aq (aG (d9 (ah (p3v 2) (ah (bV (P3.opd af) (P3.opd (aA (by rfl) (aI T) (hr.mono (by decide)) (by rfl) T.aL T.aK.kp T.aM (aa (bv 0) (aa (P3.opd (av (xb rfl) (by rfl) T.z_min (by decide +kernel) (aa (P3.opd af) (aa (P3.opd (jG (P3.opd af) (bv 2))) ae)))) ae))))) aH)))))) aW)
   (aq (aG (d9 (ah (bV (P3.opd af) (P3.opd (aA (by rfl) (aI T) (hr.mono (by decide)) (by rfl) T.aL T.aK.kp T.aM (aa (bv 0) (aa (P3.opd af) ae))))) (ah (bV (P3.opd af) (P3.opd (aA (by rfl) (aI T) (hr.mono (by decide)) (by rfl) T.aL T.aK.kp T.aM (aa (bv 0) (aa (P3.opd af) ae))))) aH)))))))),fun Γa Q h hl=>?_⟩)
 obtain⟨d,rfl,hb,q⟩:=h
 walk_at "n1"
 refine⟨_,_,12,rfl,hb,by decide,by decide,by decide,fun r1 d1 l1 u1 b1=>?_⟩
 walk_at "n1"
 refine fZ (fun h=>?_) (fun h=>?_)
 ·simp -dsimp -implicitDefEqProofs only[↓wU,↓rA,↓wY,↓wW,↓tu,↓wR,↓h_c,↓wV,RV.d,List.length_cons,List.length_nil,Nat.zero_add,Nat.reduceAdd,↓wX,Gat,bB,List.map_cons,List.map_nil,bD,newD,dq,Nat.reduceSub,List.replicate,List.cons_append,List.nil_append,List.mapIdx_cons,if_pos,BB,Option.getD_some,reduceCtorEq,if_false,BA,List.mapIdx_nil,RV.sl,List.set_cons_succ,List.set_cons_zero,List.getElem?_cons_succ,List.getElem?_cons_zero,Option.some.injEq,exists_eq',Bo.at,pT,↓wL,true_and]
  have h':r1 < 6:=of_decide_eq_true h
  refine⟨z2,z2,z2,z2,z2,z2,z6,pick l1 h' (fun v hv=>six hv) (fun v hv=>?_)⟩
  obtain⟨h,w,rfl,sz⟩:=hv
  walk_at "n1"
  exact q _ _ _ sz (b1.up (by decide))
 ·walk_at "n1"
  refine fZ (fun h=>?_) (fun h=>?_)
  ·walk_at "n1"
   refine⟨_,_,64,rfl,b1,by decide,by decide,by decide,fun r2 d2 l2 u2 b2=>?_⟩
   walk_at "n1"
   have p:1≤512 / (1 + r2):=Int.le_ediv_of_mul_le (by omega) (by omega)
   refine⟨⟨by omega,by omega⟩,_,_,_,rfl,b2,by decide,by unfold fmin;split <;> omega,by unfold fmin;split <;> omega,fun r3 d3 l3 u3 b3=>?_⟩
   walk_at "n1"
   exact⟨z2,q _ _ _ (size_of l2 u2 l3 u3) (b3.up (by decide))⟩
  ·walk_at "n1"
   refine⟨_,_,9,rfl,b1,by decide,by decide,by decide,fun r2 d2 l2 u2 b2=>?_⟩
   walk_at "n1"
   refine⟨_,_,9,rfl,b2,by decide,by decide,by decide,fun r3 d3 l3 u3 b3=>?_⟩
   walk_at "n1"
   exact⟨z2,q _ _ _ (z_ l2 u2 l3 u3) (b3.up (by decide))⟩
def Made (w k:Nat) (R:List (List Int)):Prop:=R.length=k∧∀ r∈R,r.length=w∧Fig r
theorem Made.snoc {w k:Nat} {R:List (List Int)} {r:List Int} (h:Made w k R) (h1:r.length=w) (h2:Fig r):Made w (k + 1) (R++[r]):=by
 refine⟨by rw[List.length_append,h.1];rfl,fun x hx=>?_⟩
 rcases List.mem_append.mp hx with hx | hx
 ·exact h.2 x hx
 ·rw[List.mem_singleton] at hx;subst hx;exact⟨h1,h2⟩
theorem Made.gr {h w:Int} {R:List (List Int)} (s:o9 h w) (m:Made w.toNat h.toNat R):GR w.toNat R:=by
 obtain⟨a1,a2,a3,a4,a5⟩:=s
 refine⟨by rw[m.1];omega,by rw[m.1];omega,by omega,by omega,?_,fun r hr=>(m.2 r hr).1,fun r hr=>(m.2 r hr).2⟩
 rw[m.1]
 have:((h.toNat * w.toNat:Nat):Int)≤512:=by rw[Int.natCast_mul,Int.toNat_of_nonneg (by omega),Int.toNat_of_nonneg (by omega)];exact a5
 exact_mod_cast this
theorem p5 {ns:List Int} {n:Int} (h:Fig ns) (h1:-1000000000000000 < n) (h2:n < 1000000000000000):Fig (ns++[n]):=fun x hx=>by
 rcases List.mem_append.mp hx with hx | hx
 ·exact h x hx
 ·rw[List.mem_singleton] at hx;subst hx;exact⟨h1,h2⟩
def vx:S3:=fun Γ Q=>∃ (d:D) (h w:Int),Γ=[some (.ln d),some (.fz (pD h w))]∧Box 10 d∧o9 h w∧∀ R d',GR w.toNat R→Box 1000 d'→Q (.fr (rD R)) [some (.ln d'),some (.fz (pD h w))]
theorem lV (T:Txt K mg a):aX P w K mg base CX0 3 a.fO a.eE ["_law_box_here","_law_size_here"] (sp3 K 2 vx):=by
 refine ok3 T.jt b8 (hbody:=fun cdv A outer s H E hr=>⟨_,_,(ai (bR (bc nB (P3.opd (cN (P3.opd (b7 (by rfl) (bv 1) (P3.opd af) (fun _ _=>rfl))) (P3.opd (b7 (by rfl) (bv 1) (P3.opd af) (fun _ _=>rfl))))) (P3.opd af) (bg _)) (ai (aP (i:=2) b8.nd rfl (Or.inr rfl) (aA (by rfl) (aI T) (hr.mono (by decide)) (by rfl) T.aL T.aK.kp T.aM (aa (bv 0) (aa (P3.opd (ft (v:=100000000) (by decide +kernel) ⟨by decide,by decide,by decide⟩)) ae))))
   (ai (aP (i:=3) b8.nd rfl (Or.inr rfl) (aA (by rfl) (aI T) (hr.mono (by decide)) (by rfl) T.aL T.aK.kp T.aM (aa (bv 0) (aa (P3.opd af) ae))))
   (ai (aP (i:=4) b8.nd rfl (Or.inl rfl) (dv aH))
   (ai (gK PassesOwn.never rfl (cU (by rfl) T.z_range (ah (b7 (by rfl) (bv 1) (P3.opd af) (fun _ _=>rfl)) aH)) (aY (i:=5) b8.nd rfl (Or.inr rfl))
   (ai (n8 (i:=6) b8.nd rfl rfl rfl (cU (by rfl) T.z_range (ah (b7 (by rfl) (bv 1) (P3.opd af) (fun _ _=>rfl)) aH)) eS (fun _ _ _ _ _=>(aY (i:=0) eS.nd rfl (Or.inl rfl))) (fun _ _ _ _ _=>(d_ (P3.opd (pO (P3.opd (bV (bv 1) (P3.opd (cN (P3.opd af) (P3.opd (bV (P3.opd (cN (P3.opd af) (bv 2))) (bv 0))))))) (P3.opd af))) (P3.opd af))))
   (aq (pE (kP 4 (by rfl) (bv 4) (bU rfl (b9 (by rfl) (p3v 6)) eU (fun _ _ _ _ _=>(aY (i:=0) eU.nd rfl (Or.inl rfl))) (fun _ _ _ _ _=>(b7 (by rfl) (P3.opd (dv (ah (fq (P3.opd (d_ (bv 0) (P3.opd af))) (P3.opd af)) (ah (cN (P3.opd (fq (bv 0) (P3.opd (ft (v:=1000000000) (by decide +kernel) ⟨by decide,by decide,by decide⟩)))) (P3.opd af)) aH)))) (bv 1) (fun _ _=>rfl)))))))))
   (aq (aG (yh 4))))))) aW)
   (aq (aG (bU rfl (cU (by rfl) T.z_range (ah (b7 (by rfl) (bv 1) (P3.opd af) (fun _ _=>rfl)) aH)) eW (fun _ _ _ _ _=>(aY (i:=0) eW.nd rfl (Or.inl rfl))) (fun _ _ _ _ _=>(bU rfl (cU (by rfl) T.z_range (ah (b7 (by rfl) (bv 2) (P3.opd af) (fun _ _=>rfl)) aH)) eV (fun _ _ _ _ _=>(aY (i:=0) eV.nd rfl (Or.inl rfl))) (fun _ _ _ _ _=>(aA (by rfl) (jX T) (hr.mono (by decide)) (by rfl) T.kq T.gI.kp T.ky (aa (bv 1) ae))))))))),fun Γa Q h hl=>?_⟩)
 obtain⟨d,h,w,rfl,hb,sz,q⟩:=h
 obtain⟨a1,a2,a3,a4,a5⟩:=id sz
 walk_at "n1"
 refine⟨.inl ⟨by omega,by omega⟩,fZ (fun big=>?_) (fun big=>?_)⟩
 ·walk_at "n1"
  refine⟨_,_,100000000,rfl,hb,by decide,by decide,by decide,fun r1 d1 l1 u1 b1=>?_⟩
  walk_at "n1"
  refine⟨_,_,2,rfl,b1,by decide,by decide,by decide,fun r2 d2 l2 u2 b2=>?_⟩
  walk_at "n1"
  refine⟨Nat.zero_le _,by omega,by omega,cZ (fun k Γ=>∃ R s s',Made w.toNat k R∧Γ=[some (.ln d2),some (.fz (pD h w)),some (.fz (.int r1)),some (.fz (.int r2)),some (.ow (.lst (R.map il))),fo s,fo s']) ⟨[],none,none,⟨rfl,fun _ h=>nomatch h⟩,rfl⟩ ?_ ?_⟩
  ·rintro k x Γ hd ⟨R,s,s',m,rfl⟩
   obtain⟨lk,rfl⟩:=dE hd
   walk_at "n1"
   refine⟨by omega,by omega,small (by rw[show (rng 0 w.toNat).length=w.toNat by unfold rng;simp];omega),bA (fun j ys Γc=>∃ ns:List Int,ys=ns.map .int∧ns.length=j∧(∀ n∈ns,0≤n∧n < 2147483629)∧∃ s,Γc=[fo s,some (.fz (.int r1)),some (.fz (.int (0 + k)))]) ⟨[],rfl,rfl,(fun _ h=>nomatch h),none,rfl⟩ ?_ ?_⟩
   ·rintro j y ys Γc hd2 hj ⟨ns,rfl,hl',hb',s,rfl⟩
    obtain⟨lj,rfl⟩:=dE hd2
    walk_at "n1"
    refine⟨.inl ⟨by decide,by decide⟩,.inl ⟨by decide,by decide⟩,⟨by decide,by decide,?_⟩,by decide,ns++[_],by rw[List.map_append];rfl,by simp [hl'],fun n hn=>?_,some _,rfl⟩
    ·show (r1 + 7919 * (64 * (0 + (k:Int)) + (0 + (j:Int)))).natAbs < 2 ^ 64
     omega
    ·rcases List.mem_append.mp hn with hn | hn
     ·exact hb' n hn
     ·rw[List.mem_singleton] at hn
      subst hn
      exact⟨Int.emod_nonneg _ (by decide),Int.emod_lt_of_pos _ (by decide)⟩
   ·rintro ys Γc hj ⟨ns,rfl,hl',hb',s,rfl⟩
    walk_at "n1"
    have nl:ns.length=w.toNat:=by rw[hl'];unfold rng;simp
    refine⟨small (by rw[List.length_map];omega),bA (fun j ys Γc=>∃ r:List Int,ys=r.map .int∧r.length=j∧Fig r∧∃ s,Γc=[fo s,some (.fz (.int r2))]) ⟨[],rfl,rfl,(fun _ h=>nomatch h),none,rfl⟩ ?_ ?_⟩
    ·rintro j y ys Γc hd2 hj ⟨r,rfl,hl2,hf,s,rfl⟩
     obtain⟨n,hn,rfl⟩:=cc hd2
     have hn':=hb' n (List.mem_of_getElem? hn)
     walk_at "n1"
     refine⟨by decide,.inr ⟨by decide,by decide⟩,bC (by decide),pick (p:=fun v=>∃ i:Int,v=.int i∧-1000000000000000 < i∧i < 1000000000000000) l2 u2 ?_ ?_⟩
     ·intro v hv
      simp only[List.mem_cons,List.not_mem_nil,or_false] at hv
      rcases hv with rfl | rfl
      ·exact⟨_,rfl,by have:=Int.emod_nonneg n (show (2001:Int)≠0 by decide);omega,by have:=Int.emod_lt_of_pos n (show (0:Int) < 2001 by decide);omega⟩
      ·exact⟨_,rfl,by omega,by omega⟩
     ·rintro _ ⟨i,rfl,h1,h2⟩
      walk_at "n1"
      exact⟨r++[i],by rw[List.map_append];rfl,by simp [hl2],p5 hf h1 h2,some _,rfl⟩
    ·rintro ys Γc hj ⟨r,rfl,hl2,hf,s,rfl⟩
     walk_at "n1"
     rw[List.length_map] at hl2
     refine⟨small (by rw[List.length_map,m.1];omega),R++[r],some _,some _,m.snoc (by omega) hf,by rw[List.map_append];rfl⟩
  ·rintro Γ ⟨R,s,s',m,rfl⟩
   walk_at "n1"
   rw[show (rng 0 h.toNat).length=h.toNat by unfold rng;simp] at m
   exact q R _ (m.gr sz) (b2.up (by decide))
 ·walk_at "n1"
  have small81:(h.toNat * w.toNat:Nat)≤81:=by
   have e:¬ 81 < h * w:=of_decide_eq_false big
   have:((h.toNat * w.toNat:Nat):Int)≤81:=by rw[Int.natCast_mul,Int.toNat_of_nonneg (by omega),Int.toNat_of_nonneg (by omega)];omega
   exact_mod_cast this
  refine⟨by omega,by omega,small (by rw[show (rng 0 h.toNat).length=h.toNat by unfold rng;simp];omega),bA (fun k ys Γc=>∃ R d',Made w.toNat k R∧ys=R.map il∧Box (10 + 4 * ((k * w.toNat:Nat):Int)) d'∧∃ s,Γc=[fo s,some (.ln d'),some (.fz (pD h w))]) ⟨[],d,⟨rfl,fun _ h=>nomatch h⟩,rfl,hb.up (by omega),none,rfl⟩ ?_ ?_⟩
  ·rintro k x ys Γc hd hk ⟨R,d',m,rfl,bd,s,rfl⟩
   obtain⟨lk,rfl⟩:=dE hd
   have kw:k * w.toNat≤64 * 64:=Nat.mul_le_mul (by omega) (by omega)
   walk_at "n1"
   refine⟨by omega,by omega,small (by rw[show (rng 0 w.toNat).length=w.toNat by unfold rng;simp];omega),bA (fun j ys Γc=>∃ (r:List Int) (d':D),ys=r.map .int∧r.length=j∧Fig r∧Box (10 + 4 * ((k * w.toNat + j:Nat):Int)) d'∧∃ s,Γc=[fo s,some (.ln d')]) ⟨[],d',rfl,rfl,(fun _ h=>nomatch h),bd.up (by omega),none,rfl⟩ ?_ ?_⟩
   ·rintro j y ys Γc hd2 hj ⟨r,d3,rfl,hl2,hf,b3,s,rfl⟩
    obtain⟨lj,rfl⟩:=dE hd2
    walk_at "n1"
    refine⟨_,_,rfl,b3,by omega,fun r6 d6 l6 u6 b6=>?_⟩
    walk_at "n1"
    exact⟨r++[r6],_,by rw[List.map_append];rfl,by simp [hl2],p5 hf l6 u6,b6.up (by omega),some _,rfl⟩
   ·rintro ys Γc hj ⟨r,d3,rfl,hl2,hf,b3,s,rfl⟩
    walk_at "n1"
    rw[show (rng 0 w.toNat).length=w.toNat by unfold rng;simp] at hl2 b3
    exact⟨R++[r],_,m.snoc hl2 hf,by rw[List.map_append];rfl,b3.up (by rw[Nat.add_mul,Nat.one_mul];omega),some _,rfl⟩
  ·rintro ys Γc hk ⟨R,d',m,rfl,bd,s,rfl⟩
   walk_at "n1"
   rw[show (rng 0 h.toNat).length=h.toNat by unfold rng;simp] at m bd
   exact q R _ (m.gr sz) (bd.up (by omega))
def zM:S3:=fun Γ Q=>∃ (n:Int),Γ=[some (.fz (.int n))]∧n.natAbs < 10 ^ 15∧Q (.fz (.str (itx n))) Γ
theorem dig (m:Nat):atI (Str.ofString "0123456789").cps.toList ((m:Int) % 10)=some (48 + m % 10):=by
 have fg:(Str.ofString "0123456789").cps.toList=[48,49,50,51,52,53,54,55,56,57]:=by decide +kernel
 rw[fg]
 have lt:m % 10 < 10:=Nat.mod_lt _ (by decide)
 rw[show (m:Int) % 10=((m % 10:Nat):Int) by omega]
 generalize m % 10=k at lt ⊢
 match k,lt with
 | 0,_=>rfl
 | 1,_=>rfl
 | 2,_=>rfl
 | 3,_=>rfl
 | 4,_=>rfl
 | 5,_=>rfl
 | 6,_=>rfl
 | 7,_=>rfl
 | 8,_=>rfl
 | 9,_=>rfl
def mB (m r:Nat) (z:Str):Prop:=(r≤9∧sg z=dg m)∨(9 < r∧dg m=dg (r / 10)++sg z)
theorem mB.len {m r:Nat} {z:Str} (h:mB m r z) (hm:m < 10 ^ 15):z.length≤15:=by
 have l:=jL 14 m hm
 rw[← bu]
 rcases h with ⟨_,e⟩ | ⟨_,e⟩
 ·rw[e];omega
 ·rw[e,List.length_append] at l;omega
theorem mB.start (m:Nat):mB m m ⟨#[48 + m % 10]⟩:=by
 by_cases h:m≤9
 ·exact .inl ⟨h,by rw[ji (by omega),Nat.mod_eq_of_lt (by omega)]⟩
 ·exact .inr ⟨by omega,by rw[gk (by omega)]⟩
theorem mB.next {m r:Nat} {z:Str} (h:mB m r z) (hr:9 < r):mB m (r / 10) (⟨#[48 + r / 10 % 10]⟩++z):=by
 rcases h with ⟨h,_⟩ | ⟨_,e⟩
 ·omega
 ·have s:sg ((⟨#[48 + r / 10 % 10]⟩:Str)++z)=[48 + r / 10 % 10]++sg z:=fh _ _
  by_cases h:r / 10≤9
  ·exact .inl ⟨h,by rw[s,e,ji (by omega),Nat.mod_eq_of_lt (by omega)]⟩
  ·refine .inr ⟨by omega,?_⟩
   rw[s,e,gk (m:=r / 10) (by omega),List.append_assoc]
theorem sJ:sg (Str.ofString "-")=[45]:=by decide +kernel
theorem jw (T:Txt K mg a):aX P w K mg base CX0 1 a.de a.cO ["_law_number_here"] (sp3 K 1 zM):=by
 refine ok3 T.gb bX (hbody:=fun cdv A outer s H E hr=>⟨_,_,(ai (aP (i:=1) bX.nd rfl (Or.inl rfl) (av By (by rfl) T.z_abs (by decide +kernel) (aa (bv 0) ae)))
   (ai (aP (i:=2) bX.nd rfl (Or.inl rfl) (b7 (by rfl) (P3.opd b_) (P3.opd (d_ (bv 1) (P3.opd af))) (fun _ _=>rfl)))
   (ai (rC PassesOwn.never (bc nB (bv 1) (P3.opd af) (bg _))
   (ai (aP (i:=1) bX.nd rfl (Or.inl rfl) (jG (bv 1) (P3.opd af)))
   (aq (aP (i:=2) bX.nd rfl (Or.inl rfl) (bV (P3.opd (b7 (by rfl) (P3.opd b_) (P3.opd (d_ (bv 1) (P3.opd af))) (fun _ _=>rfl))) (bv 2))))))
   (aq (aG (bV (P3.opd (vd (P3.opd b_) (P3.opd (cF Bx (by rfl) T.z_int (by decide +kernel) (aa (P3.opd (iR t6 (bv 0) (P3.opd af) (bg _))) ae))))) (bv 2))))))),fun Γa Q h hl=>?_⟩)
 obtain⟨n,rfl,hn,q⟩:=h
 walk_at "n1"
 rw[show (if n < 0 then -n else n)=(n.natAbs:Int) by split <;> omega]
 refine⟨by decide,bC (by decide +kernel),_,dig _,?_⟩
 walk_at "n1"
 refine q8 (fun m Γ=>∃ (r:Nat) (z:Str),m=r∧r < 10 ^ 15∧mB n.natAbs r z∧Γ=[some (.fz (.int n)),some (.fz (.int r)),some (.fz (.str z))]) ⟨n.natAbs,_,rfl,hn,mB.start _,rfl⟩ ?_
 rintro m Γ ⟨_,z,rfl,hr,inv,rfl⟩
 have zl:=inv.len hn
 walk_at "n1"
 refine zN (fun h=>?_) (fun h=>?_)
 ·have h9:9 < m:=by have:=of_decide_eq_true h;omega
  walk_at "n1"
  refine⟨⟨by decide,by decide⟩,by decide,bC (by decide +kernel),_,by rw[show (m:Int) / 10 % 10=((m / 10:Nat):Int) % 10 by omega];exact dig _,?_⟩
  walk_at "n1"
  refine⟨bC (by show 1 + z.length≤_;omega),m / 10,by omega,by omega,_,inv.next h9,?_⟩
  rw[show (m:Int) / 10=((m / 10:Nat):Int) by omega]
  exact⟨rfl,rfl⟩
 ·have h9:¬ 9 < m:=by have:=of_decide_eq_false h;omega
  have ez:sg z=dg n.natAbs:=inv.elim (fun h=>h.2) fun h=>absurd h.1 h9
  walk_at "n1"
  have ml:(Str.ofString "-").length=1:=by decide +kernel
  by_cases hz:n < 0
  ·rw[if_pos hz,if_neg (by decide)]
   refine⟨.inr rfl,bC (by omega),bC (by omega),?_⟩
   rw[show Str.ofString "-"++z=itx n from lH (by rw[fh,sJ,ez,iW,if_pos hz];rfl)]
   exact q
  ·rw[if_neg hz,if_pos rfl]
   refine⟨.inl rfl,bC (by omega),bC (by show 0 + z.length≤_;omega),?_⟩
   rw[show Str.empty++z=itx n from lH (by rw[Str.empty_append,ez,iW,if_neg hz])]
   exact q
def AM:S3:=fun Γ Q=>∃ (w:Nat) (R:List (List Int)),Γ=[some (.fz (rD R))]∧GR w R∧Q (.fz (.str (ftx R))) Γ
theorem pU {sep:List Nat} {xs:List (List Nat)} {k:Nat} {x:List Nat} (h:xs[k]?=some x):jn sep (xs.take (k + 1))=(if k=0 then [] else jn sep (xs.take k)++sep)++x:=by
 rw[take_snoc h]
 by_cases z:k=0
 ·subst z;rw[if_pos rfl];rfl
 ·rw[if_neg z,pV,List.append_assoc]
  have:=oM h
  intro e
  have l:(xs.take k).length=0:=by rw[e];rfl
  rw[List.length_take] at l
  omega
theorem lT (T:Txt K mg a):aX P w K mg base CX0 2 a.fL a.ey ["_law_rows_here"] (sp3 K 1 AM):=by
 refine ok3 T.jr ba (hbody:=fun cdv A outer s H E hr=>⟨_,_,(ai (aP (i:=1) ba.nd rfl (Or.inl rfl) b_)
   (ai (gK PassesOwn.never rfl (pZ (by rfl) T.z_enumerate (ah (p3v 0) aH)) (tE (is:=[2,3]) (by rfl) (ip (iq (i:=2) ba.nd rfl (Or.inl rfl)) (ip (iq (i:=3) ba.nd rfl (Or.inl rfl)) pK)) rfl)
   (ai (bR (bc nB (bv 2) (P3.opd af) (bg _)) (aq (aP (i:=1) ba.nd rfl (Or.inl rfl) (bV (bv 1) (P3.opd b_)))) aW)
   (aq (gK PassesOwn.never rfl (pZ (by rfl) T.z_enumerate (ah (p3v 3) aH)) (tE (is:=[4,5]) (by rfl) (ip (iq (i:=4) ba.nd rfl (Or.inl rfl)) (ip (iq (i:=5) ba.nd rfl (Or.inl rfl)) pK)) rfl)
   (ai (bR (bc nB (bv 4) (P3.opd af) (bg _)) (aq (aP (i:=1) ba.nd rfl (Or.inl rfl) (bV (bv 1) (P3.opd b_)))) aW)
   (aq (aP (i:=1) ba.nd rfl (Or.inl rfl) (bV (bv 1) (P3.opd (aA (by rfl) (jw T) (hr.mono (by decide)) (by rfl) T.j0 T.gb.kp T.kf (aa (P3.opd (p3v 5)) ae)))))))))))
   (aq (aG (yh 1))))),fun Γa Q h hl=>?_⟩)
 obtain⟨w,R,rfl,g,q⟩:=h
 have g2:=g.h2
 walk_at "n1"
 refine cZ (fun k Γ=>∃ z s2 s3 s4 s5,sg z=jn [59,32] ((R.map fun r=>sg (rtx r)).take k)∧Γ=[some (.fz (rD R)),some (.fz (.str z)),fo s2,fo s3,fo s4,fo s5]) ⟨_,none,none,none,none,(show sg (Str.ofString "")=[] by decide +kernel),rfl⟩ ?_ ?_
 ·rintro k d Γ hd ⟨z,s2,s3,s4,s5,ez,rfl⟩
  obtain⟨x,hx,rfl⟩:=gj hd
  obtain⟨r,hr,rfl⟩:=cc hx
  have hm:=List.mem_of_getElem? hr
  have rl:=g.len r hm
  have rf:=g.fig r hm
  have rw2:=g.w2
  have lk:=oM hr
  have zl:z.length≤69760:=by
   rw[← bu,ez]
   have:=j4 (sep:=[59,32]) (m:=1088) (xs:=(R.map fun r=>sg (rtx r)).take k) fun y hy=>by
    obtain⟨r',hr',rfl⟩:=List.mem_map.mp (List.mem_of_mem_take hy)
    rw[bu];exact jD (g.fig r' hr') (by rw[g.len r' hr'];exact g.w2)
   rw[List.length_take,List.length_map] at this
   simp only[List.length_cons,List.length_nil] at this
   omega
  walk_at "n1"
  refine fZ (fun h=>?a) (fun h=>?b)
  case' a=>
   have hk:k≠0:=by have:=of_decide_eq_true h;omega
   walk_at "n1"
   have l2:(Str.ofString "; ").length=2:=by decide +kernel
   refine⟨bC (by omega),?_⟩
   have ez0:sg (z++Str.ofString "; ")=(if k=0 then [] else jn [59,32] ((R.map fun r=>sg (rtx r)).take k)++[59,32]):=by rw[fh,ez,if_neg hk,show sg (Str.ofString "; ")=[59,32] from lI]
   have zl0:(z++Str.ofString "; ").length≤69762:=by rw[Str.length_append];omega
   generalize z++Str.ofString "; "=z0 at ez0 zl0 ⊢
  case' b=>
   have hk:k=0:=by have:=of_decide_eq_false h;omega
   walk_at "n1"
   have ez0:sg z=(if k=0 then [] else jn [59,32] ((R.map fun r=>sg (rtx r)).take k)++[59,32]):=by rw[ez,hk];rfl
   have zl0:z.length≤69762:=by omega
   generalize z=z0 at ez0 zl0 ⊢
  all_goals
   clear ez zl hk h
   refine cZ (fun j Γ=>∃ z s4 s5,sg z=sg z0++jn [32] ((r.map fun n=>sg (itx n)).take j)∧Γ=[some (.fz (rD R)),some (.fz (.str z)),some (.fz (.int k)),some (.fz (il r)),fo s4,fo s5]) ⟨z0,s4,s5,by simp [jn],rfl⟩ ?_ ?_
   ·rintro j d Γ hd2 ⟨z,s4,s5,ez,rfl⟩
    obtain⟨x,hx2,rfl⟩:=gj hd2
    obtain⟨n,hn,rfl⟩:=cc hx2
    have na:=et (rf n (List.mem_of_getElem? hn))
    have nl:=er na
    have step:=pU (sep:=[32]) (xs:=r.map fun n=>sg (itx n)) (k:=j) (x:=sg (itx n)) (by rw[List.getElem?_map,hn];rfl)
    have zl:z.length≤70850:=by
     rw[← bu,ez,List.length_append,bu]
     have:=j4 (sep:=[32]) (m:=16) (xs:=(r.map fun n=>sg (itx n)).take j) fun y hy=>by
      obtain⟨m,hm',rfl⟩:=List.mem_map.mp (List.mem_of_mem_take hy)
      rw[bu];exact er (et (rf m hm'))
     rw[List.length_take,List.length_map] at this
     simp only[List.length_cons,List.length_nil] at this
     omega
    have l1:(Str.ofString " ").length=1:=by decide +kernel
    walk_at "n1"
    refine fZ (fun h=>?_) (fun h=>?_)
    ·have hj:j≠0:=by have:=of_decide_eq_true h;omega
     walk_at "n1"
     refine⟨bC (by omega),n,rfl,na,?_⟩
     walk_at "n1"
     refine⟨bC (by rw[Str.length_append];omega),_,some _,some _,?_,rfl⟩
     rw[fh,fh,ez,step,if_neg hj,show sg (Str.ofString " ")=[32] from lJ]
     simp only[List.append_assoc]
    ·have hj:j=0:=by have:=of_decide_eq_false h;omega
     walk_at "n1"
     refine⟨n,rfl,na,?_⟩
     walk_at "n1"
     refine⟨bC (by omega),_,some _,some _,?_,rfl⟩
     rw[fh,ez,step,if_pos hj,hj]
     simp [jn]
   ·rintro Γ ⟨z,s4,s5,ez,rfl⟩
    walk_at "n1"
    refine⟨z,some _,some _,s4,s5,?_,rfl⟩
    rw[List.take_of_length_le (by unfold kY;simp),← n9] at ez
    rw[pU (x:=sg (rtx r)) (by rw[List.getElem?_map,hr];rfl),ez,ez0]
 ·rintro Γ ⟨z,s2,s3,s4,s5,ez,rfl⟩
  walk_at "n1"
  rw[List.take_of_length_le (by unfold kY;simp)] at ez
  rw[show z=ftx R from lH (by rw[ez,oQ])]
  exact q
def Am (a:Ad):S3:=fun Γ Q=>∃ (d:D),Γ=[some (.fz d)]∧oo a.aD d=some false∧Sh 10000000 20 (.lst [d])∧Q (.fz (.bl true)) Γ
theorem jx (T:Txt K mg a):aX P w K mg base CX0 6 a.df a.cP ["_law_thing"] (sp3 K 1 (Am a)):=by
 refine ok3 T.gc cn (hbody:=fun cdv A outer s H E hr=>⟨_,_,(ai (aP (i:=1) cn.nd rfl (Or.inl rfl) om)
   (ai (P3S.ofX fun B F0=>(xp (i:=2) (by rfl) T.jP rfl rfl (by rfl) T.fx cn.nd rfl rfl (fun pins F1 E W xr=>(nQ (ue (ug (by rfl) xr (jv T) AE (hr.mono (by decide)) (by rfl) T.ek T.cA.kp T.eL (aa (P3.opd (p3v 0)) ae))))) (fun pins e=>((aq (bR (P3W.pt (vb (bE (av (xf (P:=fun C=>C=a.ak) (by rfl) (fun C h=>h ▸ T.cE)) (by rfl) T.z_isinstance (by decide +kernel) (aa (bv 2) (aa (P3.opd (ir (by rfl) T.j3)) ae)))) (sf (bF (bE (av (xf (P:=fun C=>C=a.ak) (by rfl) (fun C h=>h ▸ T.cE)) (by rfl) T.z_isinstance (by decide +kernel) (aa (bv 2) (aa (P3.opd (ir (by rfl) T.qE)) ae)))))))) (aq (aP (i:=1) cn.nd rfl (Or.inl rfl) (dv (ah (vc (P:=fun C=>C=a.ak) (f:="found") (by rfl) (bv 2) (fun C h=>h ▸ ⟨⟨T.cE.ga,T.cE.gh,T.cE.hd,T.cE.ex⟩,T.iT⟩) (by rfl)) aH)))) aW))).x)))
   (aq (aG (sv (iR v5 (bv 1) (P3.opd om) (bg _)) (sj (iR (eK (by rfl) hr) (P3.opd (av (gY (by rfl) hr) (by rfl) T.z_repr (by decide +kernel) (aa (bv 1) ae))) (P3.opd (av (gY (by rfl) hr) (by rfl) T.z_repr (by decide +kernel) (aa (P3.opd (dv (ah (p3v 0) aH))) ae))) (bg _)))))))),fun Γa Q h hl=>?_⟩)
 obtain⟨d,rfl,ho,sh,q⟩:=h
 walk_at "n1"
 refine⟨d,rfl,ho,?_⟩
 refine⟨T.eh,?_⟩
 walk_at "n1"
 refine⟨true,T.gO,?_⟩
 walk_at "n1"
 refine⟨false,T.ix,?_⟩
 walk_at "n1"
 exact⟨bC (by decide),sh,bC (by decide),sh,q⟩
theorem xJ {r:List Int} (h:Fig r) (hl:r.length≤64):Sh 6531 2 (il r):=Sh.lst (n:=100) (k:=1) (l:=64) (fun x hx=>by
 obtain⟨n,hn,rfl⟩:=List.mem_map.mp hx
 exact .int (Nat.lt_trans (et (h n hn)) (by decide))) (by rw[List.length_map];exact hl)
theorem lG {w:Nat} {R:List (List Int)} (g:GR w R):Sh 418115 3 (rD R):=Sh.lst (n:=6531) (k:=2) (l:=64) (fun x hx=>by
 obtain⟨r,hr,rfl⟩:=List.mem_map.mp hx
 exact xJ (g.fig r hr) (by rw[g.len r hr];exact g.w2)) (by rw[List.length_map];exact g.h2)
theorem qK {R:List (List Int)} {c:Nat} (h:c∈sg (ftx R)):c < 16 ^ 8:=by
 rw[oQ] at h
 rcases oN h with h | ⟨x,hx,h⟩
 ·simp only[List.mem_cons,List.not_mem_nil,or_false] at h
  omega
 ·obtain⟨r,hr,rfl⟩:=List.mem_map.mp hx
  have:=kI h
  omega
theorem uv {w:Nat} {R:List (List Int)} (g:GR w R):Sh 700000 1 (.str (ftx R)):=.str (by
 have e:PyData.shown (.str (ftx R))=reprText (ftx R):=by simp only[PyData.shown]
 rw[e]
 have:=StrLaws.reprText_len (ftx R) fun c hc=>qK hc
 have:=p4 g
 omega)
theorem gJ {n k:Nat} {d:D} (h:Sh n k d) (h1:n≤1000000) (h2:k≤10):Sh 10000000 20 (.lst [d]):=by
 refine .up (Sh.lst (n:=n) (k:=k) (l:=1) (fun x hx=>?_) (by simp)) (by omega) (by omega)
 rw[List.mem_singleton] at hx;subst hx;exact h
theorem things {w:Nat} {R:List (List Int)} (g:GR w R) {C:Addr} {k:Nat} {d:D} (h:[D.non,rD R,.str (ftx R),.int 0,.bl true,.tup [],.dct][k]?=some d):oo C d=some false∧Sh 10000000 20 (.lst [d]):=by
 match k,h with
 | 0,h=>cases h;exact⟨rfl,gJ .non (by decide) (by decide)⟩
 | 1,h=>cases h;exact⟨rfl,gJ (lG g) (by decide) (by decide)⟩
 | 2,h=>cases h;exact⟨rfl,gJ (uv g) (by decide) (by decide)⟩
 | 3,h=>cases h;exact⟨rfl,gJ (.int (by decide)) (by decide) (by decide)⟩
 | 4,h=>cases h;exact⟨rfl,gJ (.bl true) (by decide) (by decide)⟩
 | 5,h=>cases h;exact⟨rfl,gJ (Sh.tup (n:=0) (k:=0) (l:=0) (fun _ h=>nomatch h) (by simp)) (by decide) (by decide)⟩
 | 6,h=>cases h;exact⟨rfl,gJ .dct (by decide) (by decide)⟩
 | n + 7,h=>simp at h
theorem jR:GR 1 [[-7],[0]]:=⟨by decide,by decide,by decide,by decide,by decide,fun r hr=>by
 simp only[List.mem_cons,List.not_mem_nil,or_false] at hr
 rcases hr with rfl | rfl <;> rfl,fun r hr n hn=>by
 simp only[List.mem_cons,List.not_mem_nil,or_false] at hr
 rcases hr with rfl | rfl <;> (rw[List.mem_singleton] at hn;subst hn;decide)⟩
theorem rg:ftx [[-7],[0]]=Str.ofString "-7; 0":=by decide +kernel
theorem qh:shw (rD [[-7],[0]])=Str.ofString "[[-7], [0]]":=by decide +kernel
theorem vn (T:Txt K mg a):aX P w K mg base CX0 8 a.p6 a.me ["_law_script"] (sp3 K 1 (wI 63)):=by
 refine ok3 T.BS cX (hbody:=fun cdv A outer s H E hr=>⟨_,_,(ai (gK PassesOwn.never rfl (cU (by rfl) T.z_range (ah (av (xc rfl) (by rfl) T.z_max (by decide +kernel) (aa (P3.opd af) (aa (P3.opd (av (xb rfl) (by rfl) T.z_min (by decide +kernel) (aa (P3.opd (av (jk (by rfl)) (by rfl) T.z_len (by decide +kernel) (aa (bv 0) ae))) (aa (P3.opd af) ae)))) ae))) aH)) (aY (i:=1) cX.nd rfl (Or.inl rfl))
   (ai (aP (i:=2) cX.nd rfl (Or.inl rfl) (aA (by rfl) (mY T) (hr.mono (by decide)) (by rfl) T.oJ T.km.kp T.o7 (aa (P3.opd (aA (by rfl) (lW T) (hr.mono (by decide)) (by rfl) T.m8 T.ju.kp T.nH (aa (P3.opd (p3v 0)) (aa (P3.opd (p3v 1)) ae)))) ae)))
   (ai (aP (i:=3) cX.nd rfl (Or.inl rfl) (aA (by rfl) (lU T) (hr.mono (by decide)) (by rfl) T.m6 T.js.kp T.nF (aa (bv 2) ae)))
   (ai (aP (i:=4) cX.nd rfl (Or.inl rfl) (sr (aA (by rfl) (lV T) (hr.mono (by decide)) (by rfl) T.m7 T.jt.kp T.nG (aa (bv 2) (aa (P3.opd (p3v 3)) ae)))))
   (ai (aP (i:=5) cX.nd rfl (Or.inl rfl) (sr (pP T.mk_Field (dm T) (hr.mono (by decide)) (by rfl) T.fy T.dX (ah (bU rfl (b9 (by rfl) (p3v 4)) k_ (fun _ _ _ _ _=>(aY (i:=0) k_.nd rfl (Or.inl rfl))) (fun _ _ _ _ _=>(cF (tZ (by rfl)) (by rfl) T.z_list (by decide +kernel) (aa (bv 0) ae)))) aH))))
   (ai (aP (i:=6) cX.nd rfl (Or.inl rfl) (aA (by rfl) (lT T) (hr.mono (by decide)) (by rfl) T.m5 T.jr.kp T.nE (aa (P3.opd (p3v 4)) ae)))
   (ai (gK PassesOwn.never rfl (cU (by rfl) T.z_range (ah af aH)) (aY (i:=7) cX.nd rfl (Or.inl rfl))
   (ai (aP (i:=8) cX.nd rfl (Or.inl rfl) (aA (by rfl) (gD T) (hr.mono (by decide)) (by rfl) T.ek T.cA.kp T.eL (aa (P3.opd (p3v 5)) ae)))
   (ai (aP (i:=9) cX.nd rfl (Or.inl rfl) (sr (aA (by rfl) (gC T) (hr.mono (by decide)) (by rfl) T.iw T.eQ.kp T.iG (aa (P3.opd (p3v 8)) ae))))
   (ai (bR (P3W.pt (d8 (bF (bE (av (xg T.tys) (by rfl) T.z_isinstance (by decide +kernel) (aa (bv 8) (aa (P3.opd (kO (n:="str") (by rfl) T.z_str (by decide +kernel))) ae))))) (d8 (bc (kc (by rfl) hr) (bv 8) (bv 6) (bg _)) (d7 (bF (bE (av (t5 (by rfl) T.j6) (by rfl) T.z_isinstance (by decide +kernel) (aa (bv 9) (aa (P3.opd (ir (by rfl) T.fy)) ae))))))))) (aq (aG dF)) aW)
   (ai (bR (P3W.pt (d8 (bc (kc (by rfl) hr) (P3.opd (av (gY (by rfl) hr) (by rfl) T.z_repr (by decide +kernel) (aa (P3.opd (fu (by rfl) (bv 9) T.dh T.ck (cj T) (hr.mono (by decide)) T.cy)) ae))) (P3.opd (av (gY (by rfl) hr) (by rfl) T.z_repr (by decide +kernel) (aa (bv 4) ae))) (bg _)) (d8 (bc (kc (by rfl) hr) (P3.opd (aA (by rfl) (gD T) (hr.mono (by decide)) (by rfl) T.ek T.cA.kp T.eL (aa (P3.opd (p3v 9)) ae))) (bv 6) (bg _)) (d7 (bc (kc (by rfl) hr) (P3.opd (av (gY (by rfl) hr) (by rfl) T.z_repr (by decide +kernel) (aa (P3.opd (fu (by rfl) (bv 5) T.dh T.ck (cj T) (hr.mono (by decide)) T.cy)) ae))) (P3.opd (av (gY (by rfl) hr) (by rfl) T.z_repr (by decide +kernel) (aa (bv 4) ae))) (bg _)))))) (aq (aG dF)) aW)
   (aq (bR (bc (kc (by rfl) hr) (P3.opd (av (gY (by rfl) hr) (by rfl) T.z_repr (by decide +kernel) (aa (P3.opd (fu (by rfl) (P3.opd (aA (by rfl) (gC T) (hr.mono (by decide)) (by rfl) T.iw T.eQ.kp T.iG (aa (P3.opd b_) ae))) T.dh T.ck (cj T) (hr.mono (by decide)) T.cy)) ae))) (P3.opd b_) (bg _)) (aq (aG dF)) aW)))))))
   (aq (gK PassesOwn.never rfl (b9 (by rfl) (dv (ah om (ah (p3v 4) (ah (p3v 6) (ah af (ah dF (ah (d9 aH) (ah yj aH))))))))) (aY (i:=10) cX.nd rfl (Or.inl rfl))
   (aq (bR (bF (bE (aA (by rfl) (jx T) (hr.mono (by decide)) (by rfl) T.j1 T.gc.kp T.kg (aa (P3.opd (p3v 10)) ae)))) (aq (aG dF)) aW)))))))))))
   (aq (aG dF))),fun Γa Q h hl=>?_⟩)
 obtain⟨ns,rfl,hn,q⟩:=h
 walk_at "n1"
 have m1:fmax 2 (fmin (ns.length:Int) 10)≤10:=by unfold fmax fmin;split <;> split <;> omega
 have m2:2≤fmax 2 (fmin (ns.length:Int) 10):=by unfold fmax fmin;split <;> split <;> omega
 refine⟨by omega,by omega,cZ (fun k Γ=>∃ s1 s2 s3 s4 s5 s6 s7 s8 s9 s10,Γ=[some (.fz (.scr ns)),fo s1,fw s2,fo s3,fo s4,fo s5,fo s6,fo s7,fo s8,fo s9,fo s10]) ⟨none,none,none,none,none,none,none,none,none,none,rfl⟩ ?_ ?_⟩
 ·rintro k x Γ hd ⟨s1,s2,s3,s4,s5,s6,s7,s8,s9,s10,rfl⟩
  obtain⟨lk,rfl⟩:=dE hd
  walk_at "n1"
  refine⟨ns,_,rfl,by omega,fun r0=>?_⟩
  walk_at "n1"
  refine⟨_,rfl,fun d0 b0=>?_⟩
  walk_at "n1"
  refine⟨_,rfl,b0,fun h w d1 sz b1=>?_⟩
  walk_at "n1"
  refine⟨_,h,w,rfl,b1,sz,fun R d2 g b2=>?_⟩
  have g2:=g.h2
  walk_at "n1"
  refine⟨small (by rw[List.length_map];omega),bA (fun k ys Γc=>ys=(R.take k).map il∧∃ s,Γc=[fo s]) ⟨rfl,none,rfl⟩ ?_ ?_⟩
  ·rintro j y ys Γc hd2 hj ⟨rfl,s,rfl⟩
   obtain⟨r,hr,rfl⟩:=cc hd2
   walk_at "n1"
   exact⟨by rw[take_snoc hr,List.map_append];rfl,some _,rfl⟩
  ·rintro ys Γc hj ⟨rfl,s,rfl⟩
   walk_at "n1"
   rw[List.take_of_length_le (by rw[List.length_map];exact Nat.le_refl _)]
   refine⟨_,R,rfl,g,?_⟩
   walk_at "n1"
   refine⟨_,R,rfl,g,?_⟩
   walk_at "n1"
   refine⟨by decide,by decide,cZ (fun j Γ=>∃ s7 s8 s9,Γ=[some (.fz (.scr ns)),some (.fz (.int (0 + k))),some (.ow d2),some (.fz (pD h w)),some (.fz (rD R)),some (.fz (fD a R)),some (.fz (.str (ftx R))),fo s7,fo s8,fo s9,fo s10]) ⟨s7,s8,s9,rfl⟩ ?_ ?_⟩
   ·rintro j y Γ hd2 ⟨s7,s8,s9,rfl⟩
    obtain⟨lj,rfl⟩:=dE hd2
    walk_at "n1"
    refine⟨_,R,rfl,g,?_⟩
    walk_at "n1"
    refine⟨_,R,rfl,g,?_⟩
    walk_at "n1"
    refine⟨true,mV,?_⟩
    walk_at "n1"
    refine⟨by decide +kernel,_,R,rfl,g,?_⟩
    walk_at "n1"
    have shR:Sh 10000000 20 (rD R):=(lG g).up (by decide) (by decide)
    refine⟨shR,shR,_,R,rfl,g,?_⟩
    walk_at "n1"
    refine⟨by decide +kernel,_,R,rfl,g,?_⟩
    walk_at "n1"
    refine⟨shR,shR,_,[[-7],[0]],by rw[rg],jR,?_⟩
    walk_at "n1"
    refine⟨by decide +kernel,_,[[-7],[0]],rfl,jR,?_⟩
    walk_at "n1"
    refine⟨(lG jR).up (by decide) (by decide),?_⟩
    rw[qh]
    walk_at "n1"
    exact⟨some _,some _,some _,rfl⟩
   ·rintro Γ ⟨s7,s8,s9,rfl⟩
    walk_at "n1"
    refine⟨Nat.zero_le _,bC (by decide),cZ (fun j Γ=>∃ s10,Γ=[some (.fz (.scr ns)),some (.fz (.int (0 + k))),some (.ow d2),some (.fz (pD h w)),some (.fz (rD R)),some (.fz (fD a R)),some (.fz (.str (ftx R))),fo s7,fo s8,fo s9,fo s10]) ⟨s10,rfl⟩ ?_ ?_⟩
    ·rintro j y Γ hd2 ⟨s10,rfl⟩
     obtain⟨ho,sh⟩:=things g (C:=a.aD) hd2
     walk_at "n1"
     refine⟨y,rfl,ho,sh,?_⟩
     walk_at "n1"
     exact⟨some _,rfl⟩
    ·rintro Γ ⟨s10,rfl⟩
     walk_at "n1"
     exact⟨some _,some _,some _,some _,some _,some _,s7,s8,s9,s10,rfl⟩
 ·rintro Γ ⟨s1,s2,s3,s4,s5,s6,s7,s8,s9,s10,rfl⟩
  walk_at "n1"
  exact q _
def lE (K:PySem.W.Frag):Sp:=fun vs H Q _=>∃ (p:Addr) (ns:List Int),vs=[.ref p]∧SqL K H p (ns.map V.int)∧ns.length≤63∧∀ H',Q (.bl true) H'
theorem yt (T:Txt K mg a):aX P w K mg base CX0 8 a.p6 a.me ["_law_script"] (lE K):=yG (vn T)
end
theorem all_mk {l:PySem.W.OpenLaw} {w:World} {K:PySem.W.Frag} {h:Heap} {mg:Str→Option Value} {fa:Addr} (X:K.In h) (G:h.Ns mainGlobals mg) (hfa:mg "law"=some (.ref fa))
  {aD:Addr}
  {az:Addr}
  {ak:Addr}
  {dZ:Addr}
  {f0:Addr} {od0 an0:Option Addr} {sl0:Array (Option Value)} {oc0 kV0 dc0 pm0 cd0 ct0:Value}
  {f1:Addr} {od1 an1:Option Addr} {sl1:Array (Option Value)} {oc1 kV1 dc1 pm1 cd1 ct1:Value}
  {f2:Addr} {od2 an2:Option Addr} {sl2:Array (Option Value)} {oc2 kV2 dc2 pm2 cd2 ct2:Value}
  {f3:Addr} {od3 an3:Option Addr} {sl3:Array (Option Value)} {oc3 kV3 dc3 pm3 cd3 ct3:Value}
  {f4:Addr} {od4 an4:Option Addr} {sl4:Array (Option Value)} {oc4 kV4 dc4 pm4 cd4 ct4:Value}
  {f5:Addr} {od5 an5:Option Addr} {sl5:Array (Option Value)} {oc5 kV5 dc5 pm5 cd5 ct5:Value}
  {f6:Addr} {od6 an6:Option Addr} {sl6:Array (Option Value)} {oc6 kV6 dc6 pm6 cd6 ct6:Value}
  {f7:Addr} {od7 an7:Option Addr} {sl7:Array (Option Value)} {oc7 kV7 dc7 pm7 cd7 ct7:Value}
  {f8:Addr} {od8 an8:Option Addr} {sl8:Array (Option Value)} {oc8 kV8 dc8 pm8 cd8 ct8:Value}
  {f9:Addr} {od9 an9:Option Addr} {sl9:Array (Option Value)} {oc9 kV9 dc9 pm9 cd9 ct9:Value}
  {f10:Addr} {od10 an10:Option Addr} {sl10:Array (Option Value)} {oc10 kV10 dc10 pm10 cd10 ct10:Value}
  {f11:Addr} {od11 an11:Option Addr} {sl11:Array (Option Value)} {oc11 kV11 dc11 pm11 cd11 ct11:Value}
  {f12:Addr} {od12 an12:Option Addr} {sl12:Array (Option Value)} {oc12 kV12 dc12 pm12 cd12 ct12:Value}
  {f13:Addr} {od13 an13:Option Addr} {sl13:Array (Option Value)} {oc13 kV13 dc13 pm13 cd13 ct13:Value}
  {f14:Addr} {od14 an14:Option Addr} {sl14:Array (Option Value)} {oc14 kV14 dc14 pm14 cd14 ct14:Value}
  {f15:Addr} {od15 an15:Option Addr} {sl15:Array (Option Value)} {oc15 kV15 dc15 pm15 cd15 ct15:Value}
  {f16:Addr} {od16 an16:Option Addr} {sl16:Array (Option Value)} {oc16 kV16 dc16 pm16 cd16 ct16:Value}
  {f17:Addr} {od17 an17:Option Addr} {sl17:Array (Option Value)} {oc17 kV17 dc17 pm17 cd17 ct17:Value}
  {f18:Addr} {od18 an18:Option Addr} {sl18:Array (Option Value)} {oc18 kV18 dc18 pm18 cd18 ct18:Value}
  {f19:Addr} {od19 an19:Option Addr} {sl19:Array (Option Value)} {oc19 kV19 dc19 pm19 cd19 ct19:Value}
  {f20:Addr} {od20 an20:Option Addr} {sl20:Array (Option Value)} {oc20 kV20 dc20 pm20 cd20 ct20:Value}
  {f21:Addr} {od21 an21:Option Addr} {sl21:Array (Option Value)} {oc21 kV21 dc21 pm21 cd21 ct21:Value}
  {f22:Addr} {od22 an22:Option Addr} {sl22:Array (Option Value)} {oc22 kV22 dc22 pm22 cd22 ct22:Value}
  {t_MOST_FIGURES:Tok}
  {t_MOST_NUMBER:Tok}
  {t_MOST_PLACES:Tok}
  {t_MOST_SIDE:Tok}
  {t_FIGURES:Tok}
  (aC_Field:PySem.W.nsIn K mainGlobals "Field"=some (some (.ref aD)))
  (pg_Field:PySem.W.plainGet K aD Str.empty=true)
  (hd_Field:PySem.W.hasDictIn K aD=true)
  (po_Field:PySem.W.plainOver K aD=true)
  (sa_Field:PySem.W.findIn K (.ref aD) "__setattr__"=some (some (.builtin "object.__setattr__")))
  (mk_Field:PySem.W.makesIn K aD=true)
  (kc_Field:PySem.W.keepIn K (.ref aD)=true)
  (aC_HalvedError:PySem.W.nsIn K mainGlobals "HalvedError"=some (some (.ref az)))
  (aC_NoField:PySem.W.nsIn K mainGlobals "NoField"=some (some (.ref ak)))
  (aC_NoText:PySem.W.nsIn K mainGlobals "NoText"=some (some (.ref dZ)))
  (n_Field_grid:PySem.W.findIn K (.ref aD) "grid"=some none)
  (y_bs:PySem.W.kitOne K (.type "bool") (.type "str")=some false)
  (y_is:PySem.W.kitOne K (.type "int") (.type "str")=some false)
  (y_ns:PySem.W.kitOne K (.type "NoneType") (.type "str")=some false)
  (y_ss:PySem.W.kitOne K (.type "str") (.type "str")=some true)
  (y_ls:PySem.W.kitOne K (.type "list") (.type "str")=some false)
  (y_ts:PySem.W.kitOne K (.type "tuple") (.type "str")=some false)
  (y_ds:PySem.W.kitOne K (.type "dict") (.type "str")=some false)
  (a0:PySem.W.findIn K (.ref az) "__init__"=some (some (.ref f0)))
  (i0:PySem.W.isFn K (.ref f0)=true)
  (l0:K.lookup f0=some ⟨oc0,od0,.func (PySem.W.fnOf "__init__" "HalvedError.__init__" (ao aw) (aj aw) (ab aw) .none kV0 dc0 pm0 an0 cd0 ct0),sl0⟩)
  (c0:PySem.W.codeIn K cd0 "HalvedError.__init__"=true)
  (k0:PySem.W.keepIn K (.ref f0)=true)
  (a1:PySem.W.findIn K (.ref ak) "__init__"=some (some (.ref f1)))
  (i1:PySem.W.isFn K (.ref f1)=true)
  (l1:K.lookup f1=some ⟨oc1,od1,.func (PySem.W.fnOf "__init__" "NoField.__init__" (ao aE) (aj aE) (ab aE) .none kV1 dc1 pm1 an1 cd1 ct1),sl1⟩)
  (c1:PySem.W.codeIn K cd1 "NoField.__init__"=true)
  (k1:PySem.W.keepIn K (.ref f1)=true)
  (a2:PySem.W.nsIn K mainGlobals "is_whole"=some (some (.ref f2)))
  (l2:K.lookup f2=some ⟨oc2,od2,.func (PySem.W.fnOf "is_whole" "is_whole" (ao bJ) (aj bJ) (ab bJ) .none kV2 dc2 pm2 an2 cd2 ct2),sl2⟩)
  (c2:PySem.W.codeIn K cd2 "is_whole"=true)
  (k2:PySem.W.keepIn K (.ref f2)=true)
  (a3:PySem.W.nsIn K mainGlobals "is_number"=some (some (.ref f3)))
  (l3:K.lookup f3=some ⟨oc3,od3,.func (PySem.W.fnOf "is_number" "is_number" (ao bh) (aj bh) (ab bh) .none kV3 dc3 pm3 an3 cd3 ct3),sl3⟩)
  (c3:PySem.W.codeIn K cd3 "is_number"=true)
  (k3:PySem.W.keepIn K (.ref f3)=true)
  (a4:PySem.W.nsIn K mainGlobals "is_row"=some (some (.ref f4)))
  (l4:K.lookup f4=some ⟨oc4,od4,.func (PySem.W.fnOf "is_row" "is_row" (ao b5) (aj b5) (ab b5) .none kV4 dc4 pm4 an4 cd4 ct4),sl4⟩)
  (c4:PySem.W.codeIn K cd4 "is_row"=true)
  (k4:PySem.W.keepIn K (.ref f4)=true)
  (a5:PySem.W.nsIn K mainGlobals "is_size"=some (some (.ref f5)))
  (l5:K.lookup f5=some ⟨oc5,od5,.func (PySem.W.fnOf "is_size" "is_size" (ao bY) (aj bY) (ab bY) .none kV5 dc5 pm5 an5 cd5 ct5),sl5⟩)
  (c5:PySem.W.codeIn K cd5 "is_size"=true)
  (k5:PySem.W.keepIn K (.ref f5)=true)
  (a6:PySem.W.nsIn K mainGlobals "are_rows"=some (some (.ref f6)))
  (l6:K.lookup f6=some ⟨oc6,od6,.func (PySem.W.fnOf "are_rows" "are_rows" (ao a_) (aj a_) (ab a_) .none kV6 dc6 pm6 an6 cd6 ct6),sl6⟩)
  (c6:PySem.W.codeIn K cd6 "are_rows"=true)
  (k6:PySem.W.keepIn K (.ref f6)=true)
  (a7:PySem.W.findIn K (.ref aD) "__init__"=some (some (.ref f7)))
  (i7:PySem.W.isFn K (.ref f7)=true)
  (l7:K.lookup f7=some ⟨oc7,od7,.func (PySem.W.fnOf "__init__" "Field.__init__" (ao aF) (aj aF) (ab aF) .none kV7 dc7 pm7 an7 cd7 ct7),sl7⟩)
  (c7:PySem.W.codeIn K cd7 "Field.__init__"=true)
  (k7:PySem.W.keepIn K (.ref f7)=true)
  (a8:PySem.W.findIn K (.ref aD) "rows"=some (some (.ref f8)))
  (i8:PySem.W.isFn K (.ref f8)=true)
  (l8:K.lookup f8=some ⟨oc8,od8,.func (PySem.W.fnOf "rows" "Field.rows" (ao aV) (aj aV) (ab aV) .none kV8 dc8 pm8 an8 cd8 ct8),sl8⟩)
  (c8:PySem.W.codeIn K cd8 "Field.rows"=true)
  (k8:PySem.W.keepIn K (.ref f8)=true)
  (a9:PySem.W.nsIn K mainGlobals "row_text"=some (some (.ref f9)))
  (l9:K.lookup f9=some ⟨oc9,od9,.func (PySem.W.fnOf "row_text" "row_text" (ao bw) (aj bw) (ab bw) .none kV9 dc9 pm9 an9 cd9 ct9),sl9⟩)
  (c9:PySem.W.codeIn K cd9 "row_text"=true)
  (k9:PySem.W.keepIn K (.ref f9)=true)
  (a10:PySem.W.nsIn K mainGlobals "field_text"=some (some (.ref f10)))
  (l10:K.lookup f10=some ⟨oc10,od10,.func (PySem.W.fnOf "field_text" "field_text" (ao aR) (aj aR) (ab aR) .none kV10 dc10 pm10 an10 cd10 ct10),sl10⟩)
  (c10:PySem.W.codeIn K cd10 "field_text"=true)
  (k10:PySem.W.keepIn K (.ref f10)=true)
  (a11:PySem.W.nsIn K mainGlobals "is_plain"=some (some (.ref f11)))
  (l11:K.lookup f11=some ⟨oc11,od11,.func (PySem.W.fnOf "is_plain" "is_plain" (ao bx) (aj bx) (ab bx) .none kV11 dc11 pm11 an11 cd11 ct11),sl11⟩)
  (c11:PySem.W.codeIn K cd11 "is_plain"=true)
  (k11:PySem.W.keepIn K (.ref f11)=true)
  (a12:PySem.W.nsIn K mainGlobals "read_field"=some (some (.ref f12)))
  (l12:K.lookup f12=some ⟨oc12,od12,.func (PySem.W.fnOf "read_field" "read_field" (ao aQ) (aj aQ) (ab aQ) .none kV12 dc12 pm12 an12 cd12 ct12),sl12⟩)
  (c12:PySem.W.codeIn K cd12 "read_field"=true)
  (k12:PySem.W.keepIn K (.ref f12)=true)
  (a13:PySem.W.nsIn K mainGlobals "_law_cell"=some (some (.ref f13)))
  (l13:K.lookup f13=some ⟨oc13,od13,.func (PySem.W.fnOf "_law_cell" "_law_cell" (ao br) (aj br) (ab br) .none kV13 dc13 pm13 an13 cd13 ct13),sl13⟩)
  (c13:PySem.W.codeIn K cd13 "_law_cell"=true)
  (k13:PySem.W.keepIn K (.ref f13)=true)
  (a14:PySem.W.nsIn K mainGlobals "_law_box"=some (some (.ref f14)))
  (l14:K.lookup f14=some ⟨oc14,od14,.func (PySem.W.fnOf "_law_box" "_law_box" (ao bK) (aj bK) (ab bK) .none kV14 dc14 pm14 an14 cd14 ct14),sl14⟩)
  (c14:PySem.W.codeIn K cd14 "_law_box"=true)
  (k14:PySem.W.keepIn K (.ref f14)=true)
  (a15:PySem.W.nsIn K mainGlobals "_law_take"=some (some (.ref f15)))
  (l15:K.lookup f15=some ⟨oc15,od15,.func (PySem.W.fnOf "_law_take" "_law_take" (ao bp) (aj bp) (ab bp) .none kV15 dc15 pm15 an15 cd15 ct15),sl15⟩)
  (c15:PySem.W.codeIn K cd15 "_law_take"=true)
  (k15:PySem.W.keepIn K (.ref f15)=true)
  (a16:PySem.W.nsIn K mainGlobals "_law_number"=some (some (.ref f16)))
  (l16:K.lookup f16=some ⟨oc16,od16,.func (PySem.W.fnOf "_law_number" "_law_number" (ao aT) (aj aT) (ab aT) .none kV16 dc16 pm16 an16 cd16 ct16),sl16⟩)
  (c16:PySem.W.codeIn K cd16 "_law_number"=true)
  (k16:PySem.W.keepIn K (.ref f16)=true)
  (a17:PySem.W.nsIn K mainGlobals "_law_size"=some (some (.ref f17)))
  (l17:K.lookup f17=some ⟨oc17,od17,.func (PySem.W.fnOf "_law_size" "_law_size" (ao bq) (aj bq) (ab bq) .none kV17 dc17 pm17 an17 cd17 ct17),sl17⟩)
  (c17:PySem.W.codeIn K cd17 "_law_size"=true)
  (k17:PySem.W.keepIn K (.ref f17)=true)
  (a18:PySem.W.nsIn K mainGlobals "_law_rows"=some (some (.ref f18)))
  (l18:K.lookup f18=some ⟨oc18,od18,.func (PySem.W.fnOf "_law_rows" "_law_rows" (ao aS) (aj aS) (ab aS) .none kV18 dc18 pm18 an18 cd18 ct18),sl18⟩)
  (c18:PySem.W.codeIn K cd18 "_law_rows"=true)
  (k18:PySem.W.keepIn K (.ref f18)=true)
  (a19:PySem.W.nsIn K mainGlobals "_law_written"=some (some (.ref f19)))
  (l19:K.lookup f19=some ⟨oc19,od19,.func (PySem.W.fnOf "_law_written" "_law_written" (ao aN) (aj aN) (ab aN) .none kV19 dc19 pm19 an19 cd19 ct19),sl19⟩)
  (c19:PySem.W.codeIn K cd19 "_law_written"=true)
  (k19:PySem.W.keepIn K (.ref f19)=true)
  (a20:PySem.W.nsIn K mainGlobals "_law_text"=some (some (.ref f20)))
  (l20:K.lookup f20=some ⟨oc20,od20,.func (PySem.W.fnOf "_law_text" "_law_text" (ao bj) (aj bj) (ab bj) .none kV20 dc20 pm20 an20 cd20 ct20),sl20⟩)
  (c20:PySem.W.codeIn K cd20 "_law_text"=true)
  (k20:PySem.W.keepIn K (.ref f20)=true)
  (a21:PySem.W.nsIn K mainGlobals "_law_refused"=some (some (.ref f21)))
  (l21:K.lookup f21=some ⟨oc21,od21,.func (PySem.W.fnOf "_law_refused" "_law_refused" (ao aO) (aj aO) (ab aO) .none kV21 dc21 pm21 an21 cd21 ct21),sl21⟩)
  (c21:PySem.W.codeIn K cd21 "_law_refused"=true)
  (k21:PySem.W.keepIn K (.ref f21)=true)
  (a22:PySem.W.nsIn K mainGlobals "law"=some (some (.ref f22)))
  (l22:K.lookup f22=some ⟨oc22,od22,.func (PySem.W.fnOf "law" "law" (ao fi) (aj fi) (ab fi) .none kV22 dc22 pm22 an22 cd22 ct22),sl22⟩)
  (c22:PySem.W.codeIn K cd22 "law"=true)
  (k22:PySem.W.keepIn K (.ref f22)=true)
  (k_xt_HalvedError:PySem.W.typeIn K (.ref az)=some (.type "type"))
  (k_xe_HalvedError:PySem.W.mroIn K az (.type "BaseException")=some true)
  (k_xm_NoField:cW K ak "ValueError" "ValueError.__new__"=true)
  (k_xk_NoField:PySem.W.keepIn K (.ref ak)=true)
  (k_xd_NoField:PySem.W.hasDictIn K ak=true)
  (k_xp_NoField:(PySem.W.clsIn K ak).any (fun cd=>iL cd.mro)=true)
  (k_xs_NoField:PySem.W.findIn K (.ref ak) "__setattr__"=some (some (.builtin "object.__setattr__")))
  (k_x1_NoField:PySem.W.findIn K (.ref ak) "__getattribute__"=some (some (.builtin "BaseException.__getattribute__")))
  (k_x2_NoField:PySem.W.findIn K (.ref ak) "__getattr__"=some none)
  (k_x3_NoField:PySem.W.mroIn K ak (.type "BaseException")=some true)
  (k_x4_NoField:PySem.W.findIn K (.ref ak) "__class__"=some (some (.builtin "object.__class__")))
  (k_x5_NoField:PySem.W.specialIn K (.builtin "object.__class__") "__get__"=some (some (.builtin "getset_descriptor.__get__")))
  (k_x6_NoField:PySem.W.takesIn K (.builtin "object.__class__")=some true)
  (k_x7_NoField:PySem.W.mroIn K ak (.type "object")=some true)
  (k_na_NoField_found:PySem.W.findIn K (.ref ak) "found"=some none)
  (k_tk_NoField_found:PySem.W.takerIn K ak "found"=some none)
  (k_mr_NoField_HalvedError:PySem.W.mroIn K ak (.ref az)=some true)
  (y_ki_NoField_NoField:PySem.W.kitOne K (.ref ak) (.ref ak)=some true)
  (y_ki_NoField_NoText:PySem.W.kitOne K (.ref ak) (.ref dZ)=some false)
  (z_ValueError:PySem.W.nsIn K mainGlobals "ValueError"=some none)
  (k_h_rd:PySem.W.readsIn K az (.type "type")=true)
  (k_h_ga:PySem.W.specialIn K (.ref az) "__getattribute__"=some (some (.builtin "type.__getattribute__")))
  (k_h_fc:PySem.W.findCls K (.ref az) (.type "type") "__init__"=some (.val (.ref f0)))
  (q_MOST_FIGURES:PySem.W.nsIn K mainGlobals "MOST_FIGURES"=some (some (.int 15 t_MOST_FIGURES)))
  (q_MOST_NUMBER:PySem.W.nsIn K mainGlobals "MOST_NUMBER"=some (some (.int 999999999999999 t_MOST_NUMBER)))
  (q_MOST_PLACES:PySem.W.nsIn K mainGlobals "MOST_PLACES"=some (some (.int 512 t_MOST_PLACES)))
  (q_MOST_SIDE:PySem.W.nsIn K mainGlobals "MOST_SIDE"=some (some (.int 64 t_MOST_SIDE)))
  (q_FIGURES:PySem.W.nsIn K mainGlobals "FIGURES"=some (some (.str (Str.ofString "0123456789") t_FIGURES)))
  (oc_Field:PySem.W.findIn K (.ref aD) "__class__"=some (some (.builtin "object.__class__")))
  (og_Field:PySem.W.specialIn K (.builtin "object.__class__") "__get__"=some (some (.builtin "getset_descriptor.__get__")))
  (ot_Field:PySem.W.takesIn K (.builtin "object.__class__")=some true)
  (ob_Field:PySem.W.mroIn K aD (.type "object")=some true)
  (y_oo_Field:PySem.W.kitOne K (.ref aD) (.ref aD)=some true)
  (y_ob_Field:PySem.W.kitOne K (.type "bool") (.ref aD)=some false)
  (y_oi_Field:PySem.W.kitOne K (.type "int") (.ref aD)=some false)
  (y_on_Field:PySem.W.kitOne K (.type "NoneType") (.ref aD)=some false)
  (y_os_Field:PySem.W.kitOne K (.type "str") (.ref aD)=some false)
  (y_ol_Field:PySem.W.kitOne K (.type "list") (.ref aD)=some false)
  (y_ot_Field:PySem.W.kitOne K (.type "tuple") (.ref aD)=some false)
  (y_od_Field:PySem.W.kitOne K (.type "dict") (.ref aD)=some false)
  (z_abs:PySem.W.nsIn K mainGlobals "abs"=some none)
  (z_all:PySem.W.nsIn K mainGlobals "all"=some none)
  (z_bool:PySem.W.nsIn K mainGlobals "bool"=some none)
  (z_enumerate:PySem.W.nsIn K mainGlobals "enumerate"=some none)
  (z_int:PySem.W.nsIn K mainGlobals "int"=some none)
  (z_isinstance:PySem.W.nsIn K mainGlobals "isinstance"=some none)
  (z_len:PySem.W.nsIn K mainGlobals "len"=some none)
  (z_list:PySem.W.nsIn K mainGlobals "list"=some none)
  (z_max:PySem.W.nsIn K mainGlobals "max"=some none)
  (z_min:PySem.W.nsIn K mainGlobals "min"=some none)
  (z_range:PySem.W.nsIn K mainGlobals "range"=some none)
  (z_repr:PySem.W.nsIn K mainGlobals "repr"=some none)
  (z_str:PySem.W.nsIn K mainGlobals "str"=some none)
  (z_tuple:PySem.W.nsIn K mainGlobals "tuple"=some none)
  (y_bb:PySem.W.kitOne K (.type "bool") (.type "bool")=some true)
  (y_bi:PySem.W.kitOne K (.type "bool") (.type "int")=some true)
  (y_bl:PySem.W.kitOne K (.type "bool") (.type "list")=some false)
  (y_bt:PySem.W.kitOne K (.type "bool") (.type "tuple")=some false)
  (y_ib:PySem.W.kitOne K (.type "int") (.type "bool")=some false)
  (y_ii:PySem.W.kitOne K (.type "int") (.type "int")=some true)
  (y_il:PySem.W.kitOne K (.type "int") (.type "list")=some false)
  (y_it:PySem.W.kitOne K (.type "int") (.type "tuple")=some false)
  (y_nb:PySem.W.kitOne K (.type "NoneType") (.type "bool")=some false)
  (y_ni:PySem.W.kitOne K (.type "NoneType") (.type "int")=some false)
  (y_nl:PySem.W.kitOne K (.type "NoneType") (.type "list")=some false)
  (y_nt:PySem.W.kitOne K (.type "NoneType") (.type "tuple")=some false)
  (y_sb:PySem.W.kitOne K (.type "str") (.type "bool")=some false)
  (y_si:PySem.W.kitOne K (.type "str") (.type "int")=some false)
  (y_sl:PySem.W.kitOne K (.type "str") (.type "list")=some false)
  (y_st:PySem.W.kitOne K (.type "str") (.type "tuple")=some false)
  (y_lb:PySem.W.kitOne K (.type "list") (.type "bool")=some false)
  (y_li:PySem.W.kitOne K (.type "list") (.type "int")=some false)
  (y_ll:PySem.W.kitOne K (.type "list") (.type "list")=some true)
  (y_lt:PySem.W.kitOne K (.type "list") (.type "tuple")=some false)
  (y_tb:PySem.W.kitOne K (.type "tuple") (.type "bool")=some false)
  (y_ti:PySem.W.kitOne K (.type "tuple") (.type "int")=some false)
  (y_tl:PySem.W.kitOne K (.type "tuple") (.type "list")=some false)
  (y_tt:PySem.W.kitOne K (.type "tuple") (.type "tuple")=some true)
  (y_db:PySem.W.kitOne K (.type "dict") (.type "bool")=some false)
  (y_di:PySem.W.kitOne K (.type "dict") (.type "int")=some false)
  (y_dl:PySem.W.kitOne K (.type "dict") (.type "list")=some false)
  (y_dt:PySem.W.kitOne K (.type "dict") (.type "tuple")=some false) :
  ∃ fd:FuncData,(∀ (s:Shared) (v:Value),BindsTo s fd ⟨[v],[]⟩ [("_law_script",v)])∧∀ base:Heap,K.In base→base.Ns mainGlobals mg→aX l.prog w K mg base CX0 8 fa fd ["_law_script"] (lE K):=by
 have e:=hfa.symm.trans (PySem.W.mg_of X G a22)
 cases e
 have T:Txt K mg ⟨aD,az,ak,dZ,f0,PySem.W.fnOf "__init__" "HalvedError.__init__" (ao aw) (aj aw) (ab aw) .none kV0 dc0 pm0 an0 cd0 ct0,f1,PySem.W.fnOf "__init__" "NoField.__init__" (ao aE) (aj aE) (ab aE) .none kV1 dc1 pm1 an1 cd1 ct1,f2,PySem.W.fnOf "is_whole" "is_whole" (ao bJ) (aj bJ) (ab bJ) .none kV2 dc2 pm2 an2 cd2 ct2,f3,PySem.W.fnOf "is_number" "is_number" (ao bh) (aj bh) (ab bh) .none kV3 dc3 pm3 an3 cd3 ct3,f4,PySem.W.fnOf "is_row" "is_row" (ao b5) (aj b5) (ab b5) .none kV4 dc4 pm4 an4 cd4 ct4,f5,PySem.W.fnOf "is_size" "is_size" (ao bY) (aj bY) (ab bY) .none kV5 dc5 pm5 an5 cd5 ct5,f6,PySem.W.fnOf "are_rows" "are_rows" (ao a_) (aj a_) (ab a_) .none kV6 dc6 pm6 an6 cd6 ct6,f7,PySem.W.fnOf "__init__" "Field.__init__" (ao aF) (aj aF) (ab aF) .none kV7 dc7 pm7 an7 cd7 ct7,f8,PySem.W.fnOf "rows" "Field.rows" (ao aV) (aj aV) (ab aV) .none kV8 dc8 pm8 an8 cd8 ct8,f9,PySem.W.fnOf "row_text" "row_text" (ao bw) (aj bw) (ab bw) .none kV9 dc9 pm9 an9 cd9 ct9,f10,PySem.W.fnOf "field_text" "field_text" (ao aR) (aj aR) (ab aR) .none kV10 dc10 pm10 an10 cd10 ct10,f11,PySem.W.fnOf "is_plain" "is_plain" (ao bx) (aj bx) (ab bx) .none kV11 dc11 pm11 an11 cd11 ct11,f12,PySem.W.fnOf "read_field" "read_field" (ao aQ) (aj aQ) (ab aQ) .none kV12 dc12 pm12 an12 cd12 ct12,f13,PySem.W.fnOf "_law_cell" "_law_cell" (ao br) (aj br) (ab br) .none kV13 dc13 pm13 an13 cd13 ct13,f14,PySem.W.fnOf "_law_box" "_law_box" (ao bK) (aj bK) (ab bK) .none kV14 dc14 pm14 an14 cd14 ct14,f15,PySem.W.fnOf "_law_take" "_law_take" (ao bp) (aj bp) (ab bp) .none kV15 dc15 pm15 an15 cd15 ct15,f16,PySem.W.fnOf "_law_number" "_law_number" (ao aT) (aj aT) (ab aT) .none kV16 dc16 pm16 an16 cd16 ct16,f17,PySem.W.fnOf "_law_size" "_law_size" (ao bq) (aj bq) (ab bq) .none kV17 dc17 pm17 an17 cd17 ct17,f18,PySem.W.fnOf "_law_rows" "_law_rows" (ao aS) (aj aS) (ab aS) .none kV18 dc18 pm18 an18 cd18 ct18,f19,PySem.W.fnOf "_law_written" "_law_written" (ao aN) (aj aN) (ab aN) .none kV19 dc19 pm19 an19 cd19 ct19,f20,PySem.W.fnOf "_law_text" "_law_text" (ao bj) (aj bj) (ab bj) .none kV20 dc20 pm20 an20 cd20 ct20,f21,PySem.W.fnOf "_law_refused" "_law_refused" (ao aO) (aj aO) (ab aO) .none kV21 dc21 pm21 an21 cd21 ct21,fa,PySem.W.fnOf "law" "law" (ao fi) (aj fi) (ab fi) .none kV22 dc22 pm22 an22 cd22 ct22⟩:=⟨⟨pg_Field,hd_Field,po_Field,sa_Field⟩,
  PySem.W.mg_of X G aC_Field,
  PySem.W.mg_of X G aC_HalvedError,
  PySem.W.mg_of X G aC_NoField,
  PySem.W.mg_of X G aC_NoText,
  n_Field_grid,
  ⟨y_bs,y_is,y_ns,y_ss,y_ls,y_ts,y_ds⟩,
  ay (st:=aw) l0 c0 k0,
  (ay (st:=aw) l0 c0 k0).binds (ps:=["self","words"]) fun _ _ _ _ _ _ _ hl=>by obtain⟨_,_,rfl⟩:=ln2 hl;rfl,
  ay (st:=aE) l1 c1 k1,
  (ay (st:=aE) l1 c1 k1).binds (ps:=["self","found"]) fun _ _ _ _ _ _ _ hl=>by obtain⟨_,_,rfl⟩:=ln2 hl;rfl,
  ay (st:=bJ) l2 c2 k2,
  (ay (st:=bJ) l2 c2 k2).binds (ps:=["thing","low","high"]) fun _ _ _ _ _ _ _ hl=>by obtain⟨_,_,_,rfl⟩:=ln3 hl;rfl,
  PySem.W.mg_of X G a2,
  ay (st:=bh) l3 c3 k3,
  (ay (st:=bh) l3 c3 k3).binds (ps:=["thing"]) fun _ _ _ _ _ _ _ hl=>by obtain⟨_,rfl⟩:=ln1 hl;rfl,
  PySem.W.mg_of X G a3,
  ay (st:=b5) l4 c4 k4,
  (ay (st:=b5) l4 c4 k4).binds (ps:=["thing","least"]) fun _ _ _ _ _ _ _ hl=>by obtain⟨_,_,rfl⟩:=ln2 hl;rfl,
  PySem.W.mg_of X G a4,
  ay (st:=bY) l5 c5 k5,
  (ay (st:=bY) l5 c5 k5).binds (ps:=["height","width"]) fun _ _ _ _ _ _ _ hl=>by obtain⟨_,_,rfl⟩:=ln2 hl;rfl,
  PySem.W.mg_of X G a5,
  ay (st:=a_) l6 c6 k6,
  (ay (st:=a_) l6 c6 k6).binds (ps:=["thing"]) fun _ _ _ _ _ _ _ hl=>by obtain⟨_,rfl⟩:=ln1 hl;rfl,
  PySem.W.mg_of X G a6,
  ay (st:=aF) l7 c7 k7,
  (ay (st:=aF) l7 c7 k7).binds (ps:=["self","rows"]) fun _ _ _ _ _ _ _ hl=>by obtain⟨_,_,rfl⟩:=ln2 hl;rfl,
  ay (st:=aV) l8 c8 k8,
  (ay (st:=aV) l8 c8 k8).binds (ps:=["self"]) fun _ _ _ _ _ _ _ hl=>by obtain⟨_,rfl⟩:=ln1 hl;rfl,
  ay (st:=bw) l9 c9 k9,
  (ay (st:=bw) l9 c9 k9).binds (ps:=["row"]) fun _ _ _ _ _ _ _ hl=>by obtain⟨_,rfl⟩:=ln1 hl;rfl,
  PySem.W.mg_of X G a9,
  ay (st:=aR) l10 c10 k10,
  (ay (st:=aR) l10 c10 k10).binds (ps:=["field"]) fun _ _ _ _ _ _ _ hl=>by obtain⟨_,rfl⟩:=ln1 hl;rfl,
  PySem.W.mg_of X G a10,
  ay (st:=bx) l11 c11 k11,
  (ay (st:=bx) l11 c11 k11).binds (ps:=["word","most"]) fun _ _ _ _ _ _ _ hl=>by obtain⟨_,_,rfl⟩:=ln2 hl;rfl,
  PySem.W.mg_of X G a11,
  ay (st:=aQ) l12 c12 k12,
  (ay (st:=aQ) l12 c12 k12).binds (ps:=["text"]) fun _ _ _ _ _ _ _ hl=>by obtain⟨_,rfl⟩:=ln1 hl;rfl,
  PySem.W.mg_of X G a12,
  ay (st:=br) l13 c13 k13,
  (ay (st:=br) l13 c13 k13).binds (ps:=["_law_script","_law_k"]) fun _ _ _ _ _ _ _ hl=>by obtain⟨_,_,rfl⟩:=ln2 hl;rfl,
  PySem.W.mg_of X G a13,
  ay (st:=bK) l14 c14 k14,
  (ay (st:=bK) l14 c14 k14).binds (ps:=["_law_cell_here"]) fun _ _ _ _ _ _ _ hl=>by obtain⟨_,rfl⟩:=ln1 hl;rfl,
  PySem.W.mg_of X G a14,
  ay (st:=bp) l15 c15 k15,
  (ay (st:=bp) l15 c15 k15).binds (ps:=["_law_box_here","_law_many"]) fun _ _ _ _ _ _ _ hl=>by obtain⟨_,_,rfl⟩:=ln2 hl;rfl,
  PySem.W.mg_of X G a15,
  ay (st:=aT) l16 c16 k16,
  (ay (st:=aT) l16 c16 k16).binds (ps:=["_law_box_here"]) fun _ _ _ _ _ _ _ hl=>by obtain⟨_,rfl⟩:=ln1 hl;rfl,
  PySem.W.mg_of X G a16,
  ay (st:=bq) l17 c17 k17,
  (ay (st:=bq) l17 c17 k17).binds (ps:=["_law_box_here"]) fun _ _ _ _ _ _ _ hl=>by obtain⟨_,rfl⟩:=ln1 hl;rfl,
  PySem.W.mg_of X G a17,
  ay (st:=aS) l18 c18 k18,
  (ay (st:=aS) l18 c18 k18).binds (ps:=["_law_box_here","_law_size_here"]) fun _ _ _ _ _ _ _ hl=>by obtain⟨_,_,rfl⟩:=ln2 hl;rfl,
  PySem.W.mg_of X G a18,
  ay (st:=aN) l19 c19 k19,
  (ay (st:=aN) l19 c19 k19).binds (ps:=["_law_number_here"]) fun _ _ _ _ _ _ _ hl=>by obtain⟨_,rfl⟩:=ln1 hl;rfl,
  PySem.W.mg_of X G a19,
  ay (st:=bj) l20 c20 k20,
  (ay (st:=bj) l20 c20 k20).binds (ps:=["_law_rows_here"]) fun _ _ _ _ _ _ _ hl=>by obtain⟨_,rfl⟩:=ln1 hl;rfl,
  PySem.W.mg_of X G a20,
  ay (st:=aO) l21 c21 k21,
  (ay (st:=aO) l21 c21 k21).binds (ps:=["_law_thing"]) fun _ _ _ _ _ _ _ hl=>by obtain⟨_,rfl⟩:=ln1 hl;rfl,
  PySem.W.mg_of X G a21,
  ay (st:=fi) l22 c22 k22,
  (ay (st:=fi) l22 c22 k22).binds (ps:=["_law_script"]) fun _ _ _ _ _ _ _ hl=>by obtain⟨_,rfl⟩:=ln1 hl;rfl,
  PySem.W.mg_of X G a22,
  ⟨k_xt_HalvedError,k_xe_HalvedError⟩,
  ⟨k_xm_NoField,a1,i1,k_xk_NoField⟩,
  ⟨k_xd_NoField,k_xp_NoField,k_xs_NoField⟩,
  ⟨⟨k_x1_NoField,k_x2_NoField,k_xd_NoField,k_x3_NoField⟩,k_x4_NoField,k_x5_NoField,k_x6_NoField,k_x7_NoField⟩,
  k_na_NoField_found,
  k_tk_NoField_found,
  k_mr_NoField_HalvedError,
  y_ki_NoField_NoField,
  y_ki_NoField_NoText,
  PySem.W.mg_none_of X G z_ValueError,
  k_h_rd,
  k_h_ga,
  k_h_fc,
  ⟨mk_Field,a7,i7,kc_Field⟩,
  ⟨a8,i8,k8⟩,
  ⟨_,PySem.W.mg_of X G q_MOST_FIGURES⟩,
  ⟨_,PySem.W.mg_of X G q_MOST_NUMBER⟩,
  ⟨_,PySem.W.mg_of X G q_MOST_PLACES⟩,
  ⟨_,PySem.W.mg_of X G q_MOST_SIDE⟩,
  ⟨_,PySem.W.mg_of X G q_FIGURES⟩,
  ⟨⟨pg_Field,hd_Field,po_Field,sa_Field⟩,oc_Field,og_Field,ot_Field,ob_Field,y_oo_Field,y_ob_Field,y_oi_Field,y_on_Field,y_os_Field,y_ol_Field,y_ot_Field,y_od_Field⟩,
  PySem.W.mg_none_of X G z_abs,
  PySem.W.mg_none_of X G z_all,
  PySem.W.mg_none_of X G z_bool,
  PySem.W.mg_none_of X G z_enumerate,
  PySem.W.mg_none_of X G z_int,
  PySem.W.mg_none_of X G z_isinstance,
  PySem.W.mg_none_of X G z_len,
  PySem.W.mg_none_of X G z_list,
  PySem.W.mg_none_of X G z_max,
  PySem.W.mg_none_of X G z_min,
  PySem.W.mg_none_of X G z_range,
  PySem.W.mg_none_of X G z_repr,
  PySem.W.mg_none_of X G z_str,
  PySem.W.mg_none_of X G z_tuple,
  ⟨y_bb,y_bi,y_bl,y_bt,y_ib,y_ii,y_il,y_it,y_nb,y_ni,y_nl,y_nt,y_sb,y_si,y_sl,y_st,y_lb,y_li,y_ll,y_lt,y_tb,y_ti,y_tl,y_tt,y_db,y_di,y_dl,y_dt⟩⟩
 exact⟨_,fun s v=>.of_eq rfl,fun base _ _=>yt T⟩
theorem walk {l:PySem.W.OpenLaw} {q:Program} {loose:List Str} {XP:(Str→Option Value)→Heap→Prop} {YP:World→Heap→Prop} {d:DefRec} {K:Params→PySem.W.Frag} (hn:l.most=some 63) (hdf:d.params.defaults=[])
  (hY:∀ (w:World) (h:Heap),YP w h→(K w.params).In h)
  (F:∀ (w:World) (mg:Str→Option Value) (fa:Addr) (h:Heap),(K w.params).In h→h.Ns mainGlobals mg→mg d.name=some (.ref fa)→
   ∃ fd:FuncData,(∀ (s:Shared) (u:Value),BindsTo s fd ⟨[u],[]⟩ [("_law_script",u)])∧∀ base:Heap,(K w.params).In base→base.Ns mainGlobals mg→aX l.prog w (K w.params) mg base CX0 8 fa fd ["_law_script"] (lE (K w.params))) :
  PySem.W.WalkO q loose XP YP l.row.toRowW d [] (fun f vs=>PySem.call f vs):=
 L2.uj (n:=63) (k:=8) (x:="_law_script") (CX:=fun _=>CX0) (sp:=fun w=>lE (K w.params)) hn (by decide) hdf ⟨rfl,by decide,by decide,rfl⟩ hY F (fun _ _ a ns hl _ hS=>⟨a,ns,rfl,hS,hl,fun _=>rfl⟩) fun _ _ _ _ _ z=>z
end K04
namespace PySem.W.Fast
theorem tw4574193611768486452:True:=trivial
theorem tw13706885529915520564:True:=trivial
theorem tw5409387451427613236:True:=trivial
theorem tw237812498231462484:True:=trivial
theorem tw15630956360161240020:True:=trivial
theorem tw16029828205543217972:True:=trivial
theorem tw4507420940755826868:True:=trivial
theorem tw10731926465852250196:True:=trivial
theorem tw2740952513103851181:True:=trivial
theorem tw15856289250014096365:True:=trivial
theorem tw7680756503695066125:True:=trivial
theorem tw10741604231388857517:True:=trivial
theorem tw7702711080752371981:True:=trivial
theorem tw6487809556805637453:True:=trivial
theorem tw5017792685131524301:True:=trivial
theorem tw2064112456639066806:True:=trivial
theorem tw749294576146100918:True:=trivial
theorem tw4405111677740551862:True:=trivial
theorem tw16775611489124070742:True:=trivial
theorem tw15676990817521453391:True:=trivial
theorem tw3215178705355387599:True:=trivial
theorem tw926746385610839759:True:=trivial
theorem tw12431155325823248047:True:=trivial
theorem tw15022692040714951343:True:=trivial
theorem tw1089967722551310159:True:=trivial
theorem tw12338255175068969071:True:=trivial
theorem tw15432516722876812495:True:=trivial
theorem tw8131601600723942703:True:=trivial
theorem tw13007737596871433455:True:=trivial
theorem tw2205009623231663504:True:=trivial
theorem tw2729193661478834864:True:=trivial
theorem tw17091858486045467184:True:=trivial
theorem tw15319458958278381200:True:=trivial
theorem tw4931346947063253744:True:=trivial
theorem tw12245451004694803472:True:=trivial
theorem tw10676653151151763632:True:=trivial
theorem tw6484867182016639024:True:=trivial
theorem tw3760785413516348153:True:=trivial
theorem tw10990311191212373625:True:=trivial
theorem tw10252499949788135129:True:=trivial
theorem tw10946363220418867385:True:=trivial
theorem tw11007746929976351865:True:=trivial
theorem tw9328596778479067257:True:=trivial
theorem tw15684687011428887961:True:=trivial
theorem tw16708406166490003833:True:=trivial
theorem tw14162120704307694265:True:=trivial
theorem tw1614705970724117042:True:=trivial
theorem tw16680020603481797202:True:=trivial
theorem tw7171823469425669778:True:=trivial
theorem tw13991495914097005298:True:=trivial
theorem tw14426219426687723250:True:=trivial
theorem tw13633560336619352690:True:=trivial
theorem tw13716545083443334930:True:=trivial
theorem tw9533357039123572818:True:=trivial
theorem tw8216509906790368178:True:=trivial
theorem tw10088865253030673330:True:=trivial
theorem tw8840283696308103474:True:=trivial
theorem tw1390286513850883410:True:=trivial
theorem tw10815957258886493298:True:=trivial
theorem tw15837721786604382322:True:=trivial
theorem tw15437097093178249330:True:=trivial
theorem tw6909856633896100114:True:=trivial
theorem tw12029633658968260091:True:=trivial
theorem tw11606127164260322075:True:=trivial
theorem tw5117634133943251611:True:=trivial
theorem tw6137765047020915835:True:=trivial
theorem tw13364833285906710747:True:=trivial
theorem tw14291178222251626779:True:=trivial
theorem tw10996820054012052571:True:=trivial
theorem tw10704866804802301083:True:=trivial
theorem tw1215761037209191963:True:=trivial
theorem tw5992206933625876220:True:=trivial
theorem tw12924228270134289148:True:=trivial
theorem tw2314591316518451388:True:=trivial
theorem tw4530799082168245596:True:=trivial
theorem tw16319075642738408700:True:=trivial
theorem tw11594728382109211221:True:=trivial
theorem tw5372317488705875317:True:=trivial
theorem tw4571341766348336149:True:=trivial
theorem tw12764788200852215701:True:=trivial
theorem tw2618992783115769749:True:=trivial
theorem tw15489258927347621109:True:=trivial
theorem tw8588617930131620917:True:=trivial
theorem tw5246224713258439733:True:=trivial
theorem tw17007248532955867349:True:=trivial
theorem tw14899453665627962110:True:=trivial
theorem tw3658257665010032158:True:=trivial
theorem tw10458569202617137790:True:=trivial
theorem tw18428632990034774718:True:=trivial
theorem tw17313159096075921374:True:=trivial
theorem tw14744340817191377886:True:=trivial
theorem tw11978374745056611486:True:=trivial
theorem tw2985307767129595038:True:=trivial
theorem tw10507680275080366110:True:=trivial
theorem tw14393127207381220862:True:=trivial
theorem tw8303399721367595358:True:=trivial
theorem tw15496158379053749847:True:=trivial
theorem tw15965495485014656887:True:=trivial
theorem tw2686225071630942967:True:=trivial
theorem tw8849052290368750615:True:=trivial
theorem tw2536160882542983191:True:=trivial
theorem tw5976768617203914679:True:=trivial
theorem tw3152057764184838359:True:=trivial
theorem tw3134464268143361239:True:=trivial
theorem tw17036462122219378967:True:=trivial
theorem tw6986670599697252727:True:=trivial
theorem tw7493490808098130103:True:=trivial
theorem tw5117250950029946456:True:=trivial
theorem tw4655475618090529400:True:=trivial
theorem tw10146156601555544472:True:=trivial
theorem tw2231947599944070616:True:=trivial
theorem tw5434901193392999192:True:=trivial
theorem tw17717389783401446264:True:=trivial
theorem tw9548159132322484952:True:=trivial
theorem tw10108158227230171032:True:=trivial
theorem tw4339121144789960664:True:=trivial
theorem tw10418560158435422488:True:=trivial
theorem tw8759488418339810456:True:=trivial
theorem tw13393178659039519992:True:=trivial
theorem tw11439723624896144920:True:=trivial
theorem tw9283462088082413089:True:=trivial
theorem tw15197297232356009793:True:=trivial
theorem tw4018306949576324001:True:=trivial
theorem tw13301572956907660385:True:=trivial
theorem tw738845719057312641:True:=trivial
theorem tw15776531646876783969:True:=trivial
theorem tw4309325318244073665:True:=trivial
theorem tw5319816238464747009:True:=trivial
theorem tw8871077383001634138:True:=trivial
theorem tw2230583153647732058:True:=trivial
theorem tw4145840194077643418:True:=trivial
theorem tw3009855979987925658:True:=trivial
theorem tw1788377103987888570:True:=trivial
theorem tw17000383520899248090:True:=trivial
theorem tw7577906269435993050:True:=trivial
theorem tw3126391713814315418:True:=trivial
theorem tw15256085011696867610:True:=trivial
theorem tw12368998304990493187:True:=trivial
theorem tw16365554236587133731:True:=trivial
theorem tw18277262661242508227:True:=trivial
theorem tw16748490187480661027:True:=trivial
theorem tw14411958167133763971:True:=trivial
theorem tw17597685316939054787:True:=trivial
theorem tw4104453898262156868:True:=trivial
theorem tw8037257617835484740:True:=trivial
theorem tw797197361569343140:True:=trivial
theorem tw12258526863251218468:True:=trivial
theorem tw14943755065260019812:True:=trivial
theorem tw9271355196879803492:True:=trivial
theorem tw11610111372076442884:True:=trivial
theorem tw15942707645688194500:True:=trivial
theorem tw5484307054368386596:True:=trivial
theorem tw4925738622957291844:True:=trivial
theorem tw12722359074936292740:True:=trivial
theorem tw18310840801934519901:True:=trivial
theorem tw5126408882209514877:True:=trivial
theorem tw3229044544381508285:True:=trivial
theorem tw9468851623753341405:True:=trivial
theorem tw779744642424022589:True:=trivial
theorem tw794210153358346013:True:=trivial
theorem tw5091948928456679581:True:=trivial
theorem tw5372549720668817373:True:=trivial
theorem tw15128411893312869437:True:=trivial
theorem tw6018305032500757725:True:=trivial
theorem tw5602568166368540157:True:=trivial
theorem tw10546232269189768477:True:=trivial
theorem tw2543097084126716646:True:=trivial
theorem tw11460347942579847686:True:=trivial
theorem tw7939639274958846470:True:=trivial
theorem tw10793796951124834918:True:=trivial
theorem tw11175194688150198886:True:=trivial
theorem tw386994645517918918:True:=trivial
theorem tw5305268519480517862:True:=trivial
theorem tw15617327154565704710:True:=trivial
theorem tw14530149155149256742:True:=trivial
theorem tw74175797422709126:True:=trivial
theorem tw11237932030246503814:True:=trivial
theorem tw13583846577689547174:True:=trivial
theorem tw13398265003032204550:True:=trivial
theorem tw17498497309491198246:True:=trivial
theorem tw8586606476062200102:True:=trivial
theorem tw9446934004279803174:True:=trivial
theorem tw17598637011104255334:True:=trivial
theorem tw16319448497622717151:True:=trivial
theorem tw5664507271720563679:True:=trivial
theorem tw4371919349626376959:True:=trivial
theorem tw8690137970864540735:True:=trivial
theorem tw4412752065717891199:True:=trivial
theorem tw7205528444359212959:True:=trivial
theorem tw4504101041217237215:True:=trivial
theorem tw11094741645516664095:True:=trivial
theorem tw14646847336610500991:True:=trivial
theorem tw5169266579240117727:True:=trivial
theorem tw1160287118530317567:True:=trivial
theorem tw6715758318834393631:True:=trivial
theorem tw9183603917391803808:True:=trivial
theorem tw2389432828302966560:True:=trivial
theorem tw6245170321539682240:True:=trivial
theorem tw17882677224983338720:True:=trivial
theorem tw14260724396333597824:True:=trivial
theorem tw16150018354944502784:True:=trivial
theorem tw4973346600623991968:True:=trivial
theorem tw7593240165264071305:True:=trivial
theorem tw12413674422782989289:True:=trivial
theorem tw1469374252284584073:True:=trivial
theorem tw7308629848889488617:True:=trivial
theorem tw13844650144113151593:True:=trivial
theorem tw14948662561100302690:True:=trivial
theorem tw7433659615514258882:True:=trivial
theorem tw17544948832041398018:True:=trivial
theorem tw5151853207303226370:True:=trivial
theorem tw12735143462047370827:True:=trivial
theorem tw10437140331339837291:True:=trivial
theorem tw10549173604183254923:True:=trivial
theorem tw4223295279032264363:True:=trivial
theorem tw17484030370209083339:True:=trivial
theorem tw3576341916481237739:True:=trivial
theorem tw6720996035865052267:True:=trivial
theorem tw13221291828973906859:True:=trivial
theorem tw12825578143109452235:True:=trivial
theorem tw9074624522031601099:True:=trivial
theorem tw12052353364950262027:True:=trivial
theorem tw17001643253322211884:True:=trivial
theorem tw8323548863608666988:True:=trivial
theorem tw6874520472815436748:True:=trivial
theorem tw8539878374923447308:True:=trivial
theorem tw10583991604753871052:True:=trivial
theorem tw2237989720747223308:True:=trivial
theorem tw17305852497432794476:True:=trivial
theorem tw12054835805366699372:True:=trivial
theorem tw15960807154878604524:True:=trivial
theorem tw15192207031081880908:True:=trivial
theorem tw13477064226142300549:True:=trivial
theorem tw11337125253632292805:True:=trivial
theorem tw17542870396268576805:True:=trivial
theorem tw13978963412766714085:True:=trivial
theorem tw9619840469575117518:True:=trivial
theorem tw14731425288817068814:True:=trivial
theorem tw8166593077118125198:True:=trivial
theorem tw16493919746894543790:True:=trivial
theorem tw9934600699858816238:True:=trivial
theorem tw14528798939922528590:True:=trivial
theorem tw17664787420496946286:True:=trivial
theorem tw4879962330683887790:True:=trivial
theorem tw7112328188222792974:True:=trivial
theorem tw6682245242843495143:True:=trivial
theorem tw11014649263548835623:True:=trivial
theorem tw2513865862205557319:True:=trivial
theorem tw16570429227140723687:True:=trivial
theorem tw15651532184753737767:True:=trivial
theorem tw8546685834370991975:True:=trivial
theorem tw4159206192548538567:True:=trivial
theorem tw16564856816552913991:True:=trivial
theorem tw5357309354885578855:True:=trivial
theorem tw1726537815048081799:True:=trivial
theorem tw16927510014246744519:True:=trivial
theorem tw4530389914118201831:True:=trivial
theorem tw3167797238141543975:True:=trivial
theorem tw15526194370914372936:True:=trivial
theorem tw15207695146537472008:True:=trivial
theorem tw5768823745073733544:True:=trivial
theorem tw18022704646573876200:True:=trivial
theorem tw13395013812826679272:True:=trivial
theorem tw12472513586103529736:True:=trivial
theorem tw10716178741933632872:True:=trivial
theorem tw5723162432150162664:True:=trivial
theorem tw13826061807157160497:True:=trivial
theorem tw5600819129952563217:True:=trivial
theorem tw5099777613915412273:True:=trivial
theorem tw1008212611773400145:True:=trivial
theorem tw4278931000129004721:True:=trivial
theorem tw14544451091117263281:True:=trivial
theorem tw17506007068400162001:True:=trivial
theorem tw1649330440613623153:True:=trivial
theorem tw4592415723489293962:True:=trivial
theorem tw2389807873043026698:True:=trivial
theorem tw15997149421126563891:True:=trivial
theorem tw260748159000774483:True:=trivial
theorem tw10635055995721082707:True:=trivial
theorem tw15604478203451793331:True:=trivial
theorem tw7852679198498153939:True:=trivial
theorem tw15505770113084617971:True:=trivial
theorem tw7501044776855521619:True:=trivial
theorem tw11206817919554989491:True:=trivial
theorem tw12236007861248288492:True:=trivial
end PySem.W.Fast
open PySem PySem.W PyProof.Rows
set_option maxRecDepth 100000 in
set_option maxHeartbeats 0 in
theorem PySem.Challenge.cw_halvedpictures_k04_texts_written_and_rea_holds : PySem.Challenge.rw_halvedpictures_k04_texts_written_and_rea.Holds := by
 w_on;o_law;k_head;(case hw=>w_witness2)
 k_fill
 refine K04.walk (l:=PySem.Challenge.rw_halvedpictures_k04_texts_written_and_rea) rfl rfl (fun w h Y=>PySem.W.kIn_of Y) ?F
 case F=>
  intro w mg fa h KX G hmg
  refine' K04.all_mk KX G hmg ?aC_Field ?pg_Field ?hd_Field ?po_Field ?sa_Field ?mk_Field ?kc_Field ?aC_HalvedError ?aC_NoField ?aC_NoText ?n_Field_grid ?y_bs ?y_is ?y_ns ?y_ss ?y_ls ?y_ts ?y_ds ?a0 ?i0 ?l0 ?c0 ?k0 ?a1 ?i1 ?l1 ?c1 ?k1 ?a2 ?l2 ?c2 ?k2 ?a3 ?l3 ?c3 ?k3 ?a4 ?l4 ?c4 ?k4 ?a5 ?l5 ?c5 ?k5 ?a6 ?l6 ?c6 ?k6 ?a7 ?i7 ?l7 ?c7 ?k7 ?a8 ?i8 ?l8 ?c8 ?k8 ?a9 ?l9 ?c9 ?k9 ?a10 ?l10 ?c10 ?k10 ?a11 ?l11 ?c11 ?k11 ?a12 ?l12 ?c12 ?k12 ?a13 ?l13 ?c13 ?k13 ?a14 ?l14 ?c14 ?k14 ?a15 ?l15 ?c15 ?k15 ?a16 ?l16 ?c16 ?k16 ?a17 ?l17 ?c17 ?k17 ?a18 ?l18 ?c18 ?k18 ?a19 ?l19 ?c19 ?k19 ?a20 ?l20 ?c20 ?k20 ?a21 ?l21 ?c21 ?k21 ?a22 ?l22 ?c22 ?k22 ?k_xt_HalvedError ?k_xe_HalvedError ?k_xm_NoField ?k_xk_NoField ?k_xd_NoField ?k_xp_NoField ?k_xs_NoField ?k_x1_NoField ?k_x2_NoField ?k_x3_NoField ?k_x4_NoField ?k_x5_NoField ?k_x6_NoField ?k_x7_NoField ?k_na_NoField_found ?k_tk_NoField_found ?k_mr_NoField_HalvedError ?y_ki_NoField_NoField ?y_ki_NoField_NoText ?z_ValueError ?k_h_rd ?k_h_ga ?k_h_fc ?q_MOST_FIGURES ?q_MOST_NUMBER ?q_MOST_PLACES ?q_MOST_SIDE ?q_FIGURES ?oc_Field ?og_Field ?ot_Field ?ob_Field ?y_oo_Field ?y_ob_Field ?y_oi_Field ?y_on_Field ?y_os_Field ?y_ol_Field ?y_ot_Field ?y_od_Field ?z_abs ?z_all ?z_bool ?z_enumerate ?z_int ?z_isinstance ?z_len ?z_list ?z_max ?z_min ?z_range ?z_repr ?z_str ?z_tuple ?y_bb ?y_bi ?y_bl ?y_bt ?y_ib ?y_ii ?y_il ?y_it ?y_nb ?y_ni ?y_nl ?y_nt ?y_sb ?y_si ?y_sl ?y_st ?y_lb ?y_li ?y_ll ?y_lt ?y_tb ?y_ti ?y_tl ?y_tt ?y_db ?y_di ?y_dl ?y_dt
  (case aC_Field=>k_is)
  (case pg_Field=>k_is)
  (case hd_Field=>k_is)
  (case po_Field=>k_is)
  (case sa_Field=>k_is)
  (case mk_Field=>k_is)
  (case kc_Field=>k_is)
  (case aC_HalvedError=>k_is)
  (case aC_NoField=>k_is)
  (case aC_NoText=>k_is)
  (case n_Field_grid=>k_is)
  (case y_bs=>kit_is)
  (case y_is=>kit_is)
  (case y_ns=>kit_is)
  (case y_ss=>kit_is)
  (case y_ls=>kit_is)
  (case y_ts=>kit_is)
  (case y_ds=>kit_is)
  (case a0=>k_is)
  (case i0=>k_is)
  (case l0=>k_is)
  (case c0=>k_is)
  (case k0=>k_is)
  (case a1=>k_is)
  (case i1=>k_is)
  (case l1=>k_is)
  (case c1=>k_is)
  (case k1=>k_is)
  (case a2=>k_is)
  (case l2=>k_is)
  (case c2=>k_is)
  (case k2=>k_is)
  (case a3=>k_is)
  (case l3=>k_is)
  (case c3=>k_is)
  (case k3=>k_is)
  (case a4=>k_is)
  (case l4=>k_is)
  (case c4=>k_is)
  (case k4=>k_is)
  (case a5=>k_is)
  (case l5=>k_is)
  (case c5=>k_is)
  (case k5=>k_is)
  (case a6=>k_is)
  (case l6=>k_is)
  (case c6=>k_is)
  (case k6=>k_is)
  (case a7=>k_is)
  (case i7=>k_is)
  (case l7=>k_is)
  (case c7=>k_is)
  (case k7=>k_is)
  (case a8=>k_is)
  (case i8=>k_is)
  (case l8=>k_is)
  (case c8=>k_is)
  (case k8=>k_is)
  (case a9=>k_is)
  (case l9=>k_is)
  (case c9=>k_is)
  (case k9=>k_is)
  (case a10=>k_is)
  (case l10=>k_is)
  (case c10=>k_is)
  (case k10=>k_is)
  (case a11=>k_is)
  (case l11=>k_is)
  (case c11=>k_is)
  (case k11=>k_is)
  (case a12=>k_is)
  (case l12=>k_is)
  (case c12=>k_is)
  (case k12=>k_is)
  (case a13=>k_is)
  (case l13=>k_is)
  (case c13=>k_is)
  (case k13=>k_is)
  (case a14=>k_is)
  (case l14=>k_is)
  (case c14=>k_is)
  (case k14=>k_is)
  (case a15=>k_is)
  (case l15=>k_is)
  (case c15=>k_is)
  (case k15=>k_is)
  (case a16=>k_is)
  (case l16=>k_is)
  (case c16=>k_is)
  (case k16=>k_is)
  (case a17=>k_is)
  (case l17=>k_is)
  (case c17=>k_is)
  (case k17=>k_is)
  (case a18=>k_is)
  (case l18=>k_is)
  (case c18=>k_is)
  (case k18=>k_is)
  (case a19=>k_is)
  (case l19=>k_is)
  (case c19=>k_is)
  (case k19=>k_is)
  (case a20=>k_is)
  (case l20=>k_is)
  (case c20=>k_is)
  (case k20=>k_is)
  (case a21=>k_is)
  (case l21=>k_is)
  (case c21=>k_is)
  (case k21=>k_is)
  (case a22=>k_is)
  (case l22=>k_is)
  (case c22=>k_is)
  (case k22=>k_is)
  (case k_xt_HalvedError=>first | k_is | kernel_rfl)
  (case k_xe_HalvedError=>first | k_is | kernel_rfl)
  (case k_xm_NoField=>first | k_is | kernel_rfl)
  (case k_xk_NoField=>first | k_is | kernel_rfl)
  (case k_xd_NoField=>first | k_is | kernel_rfl)
  (case k_xp_NoField=>first | k_is | kernel_rfl)
  (case k_xs_NoField=>first | k_is | kernel_rfl)
  (case k_x1_NoField=>first | k_is | kernel_rfl)
  (case k_x2_NoField=>first | k_is | kernel_rfl)
  (case k_x3_NoField=>first | k_is | kernel_rfl)
  (case k_x4_NoField=>first | k_is | kernel_rfl)
  (case k_x5_NoField=>first | k_is | kernel_rfl)
  (case k_x6_NoField=>first | k_is | kernel_rfl)
  (case k_x7_NoField=>first | k_is | kernel_rfl)
  (case k_na_NoField_found=>first | k_is | kernel_rfl)
  (case k_tk_NoField_found=>first | k_is | kernel_rfl)
  (case k_mr_NoField_HalvedError=>first | k_is | kernel_rfl)
  (case y_ki_NoField_NoField=>kit_is)
  (case y_ki_NoField_NoText=>kit_is)
  (case z_ValueError=>k_is)
  (case k_h_rd=>first | k_is | kernel_rfl)
  (case k_h_ga=>first | k_is | kernel_rfl)
  (case k_h_fc=>first | k_is | kernel_rfl)
  (case q_MOST_FIGURES=>k_is)
  (case q_MOST_NUMBER=>k_is)
  (case q_MOST_PLACES=>k_is)
  (case q_MOST_SIDE=>k_is)
  (case q_FIGURES=>k_is)
  (case oc_Field=>k_is)
  (case og_Field=>k_is)
  (case ot_Field=>k_is)
  (case ob_Field=>k_is)
  (case y_oo_Field=>kit_is)
  (case y_ob_Field=>kit_is)
  (case y_oi_Field=>kit_is)
  (case y_on_Field=>kit_is)
  (case y_os_Field=>kit_is)
  (case y_ol_Field=>kit_is)
  (case y_ot_Field=>kit_is)
  (case y_od_Field=>kit_is)
  (case z_abs=>k_is)
  (case z_all=>k_is)
  (case z_bool=>k_is)
  (case z_enumerate=>k_is)
  (case z_int=>k_is)
  (case z_isinstance=>k_is)
  (case z_len=>k_is)
  (case z_list=>k_is)
  (case z_max=>k_is)
  (case z_min=>k_is)
  (case z_range=>k_is)
  (case z_repr=>k_is)
  (case z_str=>k_is)
  (case z_tuple=>k_is)
  (case y_bb=>kit_is)
  (case y_bi=>kit_is)
  (case y_bl=>kit_is)
  (case y_bt=>kit_is)
  (case y_ib=>kit_is)
  (case y_ii=>kit_is)
  (case y_il=>kit_is)
  (case y_it=>kit_is)
  (case y_nb=>kit_is)
  (case y_ni=>kit_is)
  (case y_nl=>kit_is)
  (case y_nt=>kit_is)
  (case y_sb=>kit_is)
  (case y_si=>kit_is)
  (case y_sl=>kit_is)
  (case y_st=>kit_is)
  (case y_lb=>kit_is)
  (case y_li=>kit_is)
  (case y_ll=>kit_is)
  (case y_lt=>kit_is)
  (case y_tb=>kit_is)
  (case y_ti=>kit_is)
  (case y_tl=>kit_is)
  (case y_tt=>kit_is)
  (case y_db=>kit_is)
  (case y_di=>kit_is)
  (case y_dl=>kit_is)
  (case y_dt=>kit_is)
