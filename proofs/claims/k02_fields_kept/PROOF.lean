import PyProof.Rows.All
import Wide.All
import OpenK.AllK
import Wide.FinOn
import Lean
import KE.KRevIter
import KE.KPairComp
import KE.KIntText
import PyProof.NsDelKeeps
import PyProof.NeKinds
import PyProof.EqAt
import PyProof.EqKinds
import PyProof.TupleCall
import PySem.Challenge.RW_halvedpictures_k02_fields_kept
set_option Elab.async false
set_option linter.all false
set_option maxRecDepth 100000
namespace L2
open PySem PySem.Spec PyProof.Rows
abbrev Key:=Sum Int Str
def wb:Key→Value→Bool
 | .inl k,v=>Value.isInt k v
 | .inr x,v=>Value.isStrOf x v
def FI (w:World):Key→Int
 | .inl k=>hashInt k
 | .inr x=>hashStr w x
theorem cj:∀ {k:Key} {v:Value},wb k v=true→(∃ i t,k=Sum.inl i∧v=Value.int i t)∨(∃ x t,k=Sum.inr x∧v=Value.str x t)
 | .inl i,v,h=>by
  obtain⟨t,e⟩:=Value.isInt_shape (k:=i) (v:=v) h
  exact .inl ⟨i,t,rfl,e⟩
 | .inr x,v,h=>by
  obtain⟨t,e⟩:=Value.isStrOf_shape (x:=x) (v:=v) h
  exact .inr ⟨x,t,rfl,e⟩
theorem BI (a b:Int):decide ((Sum.inl a:Key)=Sum.inl b)=(a == b):=by
 by_cases e:a=b
 ·subst e;simp
 ·have h:¬ (Sum.inl a:Key)=Sum.inl b:=fun q=>e (Sum.inl.inj q)
  rw[decide_eq_false h]
  exact(beq_eq_false_iff_ne.mpr e).symm
theorem BF (a b:Str):decide ((Sum.inr a:Key)=Sum.inr b)=decide (a=b):=by
 by_cases e:a=b
 ·subst e;simp
 ·have h:¬ (Sum.inr a:Key)=Sum.inr b:=fun q=>e (Sum.inr.inj q)
  rw[decide_eq_false h,decide_eq_false e]
theorem BH (a:Int) (b:Str):decide ((Sum.inl a:Key)=Sum.inr b)=false:=decide_eq_false (fun q=>nomatch q)
theorem BG (a:Str) (b:Int):decide ((Sum.inr a:Key)=Sum.inl b)=false:=decide_eq_false (fun q=>nomatch q)
def lz (prog:Program) (w:World):PySem.KeyKind prog w Key where
 is:=wb
 hash:=FI w
 inj:=fun v a b ha hb=>by
  rcases cj ha with ⟨i,t,rfl,rfl⟩ | ⟨x,t,rfl,rfl⟩
  ·rcases cj hb with ⟨j,u,rfl,e⟩ | ⟨y,u,rfl,e⟩
   ·injection e with e1 _;rw[e1]
   ·exact nomatch e
  ·rcases cj hb with ⟨j,u,rfl,e⟩ | ⟨y,u,rfl,e⟩
   ·exact nomatch e
   ·injection e with e1 _;rw[e1]
 byValue:=fun k v h=>by
  rcases cj h with ⟨i,t,rfl,rfl⟩ | ⟨x,t,rfl,rfl⟩ <;> rfl
 pyHash:=fun hv h=>by
  rcases cj hv with ⟨i,t,rfl,rfl⟩ | ⟨x,t,rfl,rfl⟩
  ·exact wpAny_pyHash_int h
  ·exact wpAny_pyHash_str h
 eqBool:=fun hu hv h=>by
  rcases cj hu with ⟨i,t,rfl,rfl⟩ | ⟨x,t,rfl,rfl⟩
  ·rcases cj hv with ⟨j,u,rfl,rfl⟩ | ⟨y,u,rfl,rfl⟩
   ·rw[BI] at h;exact wpAny_eqBool_int h
   ·rw[BH] at h;exact SeqAt.EqAt.int_str i t y u _ _ _ _ h
  ·rcases cj hv with ⟨j,u,rfl,rfl⟩ | ⟨y,u,rfl,rfl⟩
   ·rw[BG] at h;exact SeqAt.EqAt.str_int x t j u _ _ _ _ h
   ·rw[BF] at h;exact wpAny_eqBool_str h
 «strs»:=fun k x t v h=>by
  rcases cj h with ⟨i,u,rfl,e⟩ | ⟨y,u,rfl,e⟩
  ·exact nomatch e
  ·injection e with e1 _
   subst e1
   cases v <;> rfl
end L2
namespace L2
open PySem PySem.Spec PyProof.Rows
inductive V where
 | non | bl (b:Bool) | int (i:Int) | str (x:Str) | byt (b:Array UInt8) | flt (b:UInt64) | ref (a:Addr) | ty (n:String)
 deriving DecidableEq
def RelV:V→Value→Prop
 | .non,u=>u=Value.none
 | .bl b,u=>u=Value.bool b
 | .int i,u=>∃ t,u=Value.int i t
 | .str x,u=>∃ t,u=Value.str x t
 | .byt b,u=>∃ t,u=Value.bytes b t
 | .flt b,u=>∃ t,u=Value.float b t
 | .ref a,u=>u=Value.ref a
 | .ty n,u=>u=Value.type n
abbrev Vals:List V→List Value→Prop:=Paired RelV
theorem Vals.length {xs:List V} {us:List Value} (r:Vals xs us):xs.length=us.length:=Paired.length r
theorem Vals.get:∀ {xs:List V} {us:List Value} {i:Nat} {x:V},Vals xs us→xs[i]?=some x→∃ u,us[i]?=some u∧RelV x u
 | _,_,_,_,.nil,e=>by simp at e
 | _,_,0,_,.cons r _,e=>by simp at e;subst e;exact⟨_,rfl,r⟩
 | _,_,i + 1,x,.cons _ t,e=>by
  obtain⟨u,h1,h2⟩:=Vals.get (i:=i) (x:=x) t (by simpa using e)
  exact⟨u,by simpa using h1,h2⟩
theorem Vals.set {x:V} {u:Value} (r:RelV x u):∀ {xs:List V} {us:List Value} (i:Nat),Vals xs us→Vals (xs.set i x) (us.set i u)
 | _,_,_,.nil=>.nil
 | _,_,0,.cons _ t=>.cons r t
 | _,_,i + 1,.cons q t=>.cons q (Vals.set r i t)
theorem Vals.append:∀ {xs ys:List V} {us ws:List Value},Vals xs us→Vals ys ws→Vals (xs++ys) (us++ws)
 | _,_,_,_,.nil,s=>s
 | _,_,_,_,.cons r t,s=>.cons r (Vals.append t s)
theorem Vals.take:∀ {xs:List V} {us:List Value} (n:Nat),Vals xs us→Vals (xs.take n) (us.take n)
 | _,_,0,_=>.nil
 | _,_,_ + 1,.nil=>.nil
 | _,_,n + 1,.cons r t=>.cons r (Vals.take n t)
theorem Vals.drop:∀ {xs:List V} {us:List Value} (n:Nat),Vals xs us→Vals (xs.drop n) (us.drop n)
 | _,_,0,r=>r
 | _,_,_ + 1,.nil=>.nil
 | _,_,n + 1,.cons _ t=>Vals.drop n t
def my:Option V→Option Value→Prop
 | some v,some u=>RelV v u
 | none,none=>True
 | _,_=>False
def KV {κ:Type}:List (κ×V)→List (κ×Value)→Prop:=Paired fun (p:κ×V) (q:κ×Value)=>p.1=q.1∧RelV p.2 q.2
def kV:Key→V
 | .inl i=>.int i
 | .inr x=>.str x
inductive HO where
 | lst (xs:List V)
 | tup (xs:List V)
 | dK (kvs:List (Key×V)) | dT (kvs:List (List Key×V))
 | set (S:Int→Bool) (n:Nat)
 | ins (C dx:Addr) (fs:List (Str×V))
 | own (x:Addr)
 | xd (fs:List (Str×V))
 | met (f x:Addr)
 | rng (lo hi:Int)
 | frz (o:Obj) (u:HO)
 | tbl (ps:Array Value)
 | ext (φ:Heap→Prop)
abbrev Hp:=Addr→Option HO
def upd (H:Hp) (a:Addr) (o:HO):Hp:=fun b=>if b=a then some o else H b
theorem aD {H:Hp} {a:Addr} {o:HO}:upd H a o a=some o:=by unfold upd;rw[if_pos rfl]
theorem ak {H:Hp} {a b:Addr} {o:HO} (h:b≠a):upd H a o b=H b:=by unfold upd;rw[if_neg h]
theorem bL {H:Hp} {a b:Addr} {o:HO} (h:H a=some o) (h':H b=none):a≠b:=by
 intro e;subst e;rw[h] at h';cases h'
section
variable (P:Program) (w:World)
def cT (H:Hp) (h:Heap) (a:Addr):HO→Prop
 | .lst xs=>xs.length≤sizeLine∧∃ (its:List Value) (n:Nat),Vals xs its∧h.get? a=some { cls:=.type "list",data:=.seq its.toArray n }
 | .tup xs=>xs.length≤sizeLine∧∃ its:List Value,Vals xs its∧IsTup h a its.toArray
 | .dK kvs=>kvs.length≤sizeLine∧(a == sysModules)=false∧∃ vs,KV kvs vs∧h.DictOf (lz P w) a vs
 | .dT kvs=>kvs.length≤sizeLine∧(a == sysModules)=false∧∃ xs:List (List Key×Addr×Value),
   Paired (fun (p:List Key×V) (q:List Key×Addr×Value)=>p.1=q.1∧H q.2.1=some (.tup (p.1.map kV))∧RelV p.2 q.2.2) kvs xs∧
   ∃ o es ep,h.get? a=some o∧o.ExactDict∧o.data=.dict es ep∧es.toList=xs.map (entryOfKey (tupleKind (lz P w)))∧(xs.map (·.1)).Nodup
 | .set S n=>h.SetOf (intKind P w) a S n
 | .ins C dx fs=>H dx=some (.own a)∧fs.length≤1000∧dx≠a∧h.get? a=some (PySem.W.instObj C dx)∧
   ∃ mA,h.Ns1 dx mA∧(∀ f,my (fs.lookup f) (mA f))∧PySem.Within mA (fs.map (·.1))
 | .own _=>∃ o,h.get? a=some o
 | .xd fs=>∃ mA,h.Ns1 a mA∧∀ f,my (fs.lookup f) (mA f)
 | .rng lo hi=>∃ t u v,h.get? a=some { cls:=.type "range",data:=.fields #[.int lo t,.int hi u,.int 1 v] }
 | .frz o u=>h.get? a=some o∧cT H h a u
 | .tbl ps=>h.get? a=some { cls:=.none,data:=.fields ps }
 | .met f x=>h.get? a=some (PySem.W.methodObj (.ref f) (.ref x))
 | .ext φ=>φ h∧(∃ o,h.get? a=some o)∧∀ h1 h2:Heap,φ h1→(∀ o,h1.get? a=some o→h2.get? a=some o)→φ h2
def HOk (H:Hp) (h:Heap):Prop:=∀ a o,H a=some o→cT P w H h a o
end
section
variable {P:Program} {w:World} {H H':Hp} {h h':Heap} {a:Addr} {o:HO}
theorem cT.lt (x:cT P w H h a o):a < h.objs.size:=by
 cases o with
 | lst xs=>obtain⟨_,_,_,_,e⟩:=x;exact Heap.lt_size e
 | tup xs=>obtain⟨_,_,_,p⟩:=x;exact p.lt
 | dK kvs=>obtain⟨_,_,_,_,o,_,_,e,_⟩:=x;exact Heap.lt_size e
 | dT kvs=>obtain⟨_,_,_,_,o,_,_,e,_⟩:=x;exact Heap.lt_size e
 | set S n=>obtain⟨o,_,_,_,e,_⟩:=x;exact Heap.lt_size e
 | ins C dx fs=>obtain⟨_,_,_,e,_⟩:=x;exact Heap.lt_size e
 | own y=>obtain⟨_,e⟩:=x;exact Heap.lt_size e
 | xd fs=>obtain⟨_,⟨_,_,_,e,_⟩,_⟩:=x;exact Heap.lt_size e
 | rng lo hi=>obtain⟨_,_,_,e⟩:=x;exact Heap.lt_size e
 | frz ob u=>obtain⟨e,_⟩:=x;exact Heap.lt_size e
 | tbl ps=>exact Heap.lt_size (show h.get? a=some _ from x)
 | met f y=>exact Heap.lt_size (show h.get? a=some _ from x)
 | ext φ=>obtain⟨_,⟨_,e⟩,_⟩:=x;exact Heap.lt_size e
theorem Paired.DC {α β:Type} {F G:α→β→Prop}:∀ {l₁:List α} {l₂:List β},Paired F l₁ l₂→(∀ a b,F a b→G a b)→Paired G l₁ l₂
 | _,_,.nil,_=>.nil
 | _,_,.cons r t,f=>.cons (f _ _ r) (Paired.DC t f)
theorem cT.nW (x:cT P w H h a o) (k:∀ b u,(b=a∨H b=some (.own a))→h.get? b=some u→h'.get? b=some u)
  (ho:∀ b,H b=some (.own a)→H' b=some (.own a)) (ht:∀ b xs,H b=some (.tup xs)→H' b=some (.tup xs)):cT P w H' h' a o:=by
 induction o with
 | lst xs=>obtain⟨z,its,n,r,e⟩:=x;exact⟨z,its,n,r,k _ _ (.inl rfl) e⟩
 | tup xs=>obtain⟨z,its,r,ob,e,c⟩:=x;exact⟨z,its,r,ob,k _ _ (.inl rfl) e,c⟩
 | dK kvs=>obtain⟨z,y,vs,r,ob,es,ep,e,c⟩:=x;exact⟨z,y,vs,r,ob,es,ep,k _ _ (.inl rfl) e,c⟩
 | dT kvs=>
  obtain⟨z,y,xs,r,ob,es,ep,e,c⟩:=x
  exact⟨z,y,xs,Paired.DC r fun p q z=>⟨z.1,ht _ _ z.2.1,z.2.2⟩,ob,es,ep,k _ _ (.inl rfl) e,c⟩
 | set S n=>obtain⟨ob,es,ep,t,e,c⟩:=x;exact⟨ob,es,ep,t,k _ _ (.inl rfl) e,c⟩
 | ins C dx fs=>
  obtain⟨d,z,ne,e,mA,⟨od,es,ep,e2,c⟩,r⟩:=x
  exact⟨ho _ d,z,ne,k _ _ (.inl rfl) e,mA,⟨od,es,ep,k _ _ (.inr d) e2,c⟩,r⟩
 | own y=>obtain⟨ob,e⟩:=x;exact⟨ob,k _ _ (.inl rfl) e⟩
 | xd fs=>obtain⟨mA,⟨od,es,ep,e,c⟩,r⟩:=x;exact⟨mA,⟨od,es,ep,k _ _ (.inl rfl) e,c⟩,r⟩
 | rng lo hi=>obtain⟨t,u,v,e⟩:=x;exact⟨t,u,v,k _ _ (.inl rfl) e⟩
 | frz ob u ih=>obtain⟨e,q⟩:=x;exact⟨k _ _ (.inl rfl) e,ih q⟩
 | tbl ps=>
  have e:h.get? a=some { cls:=.none,data:=.fields ps }:=x
  show h'.get? a=some { cls:=.none,data:=.fields ps }
  exact k a _ (.inl rfl) e
 | met f y=>
  have e:h.get? a=some (PySem.W.methodObj (.ref f) (.ref y)):=x
  show h'.get? a=some (PySem.W.methodObj (.ref f) (.ref y))
  exact k a _ (.inl rfl) e
 | ext φ=>obtain⟨p,⟨o,e⟩,st⟩:=x;exact⟨st _ _ p fun o q=>k _ _ (.inl rfl) q,⟨o,k _ _ (.inl rfl) e⟩,st⟩
theorem HOk.lt (x:HOk P w H h) (e:H a=some o):a < h.objs.size:=(x a o e).lt
theorem HOk.fresh (x:HOk P w H h) (e:h.objs.size≤a):H a=none:=by
 cases q:H a with
 | none=>rfl
 | some u=>exact absurd (Nat.lt_of_lt_of_le (x.lt q) e) (Nat.lt_irrefl _)
theorem HOk.kept (x:HOk P w H h) (k:∀ b u,h.get? b=some u→h'.get? b=some u):HOk P w H h':=fun a o e=>
 (x a o e).nW (fun b u _ q=>k b u q) (fun _ q=>q) fun _ _ q=>q
theorem HOk.laid (x:HOk P w H h) (k:∀ b u,h.get? b=some u→h'.get? b=some u) (hp:h.objs.size≤a) (new:cT P w (upd H a o) h' a o):HOk P w (upd H a o) h':=fun b u e=>by
 have hn:=x.fresh hp
 by_cases hb:b=a
 ·subst hb;rw[aD] at e;cases e;exact new
 ·rw[ak hb] at e
  exact(x b u e).nW (fun c v _ q=>k c v q) (fun c q=>by rw[ak (bL q hn)];exact q) fun c xs q=>by rw[ak (bL q hn)];exact q
end
def Rd (H:Hp) (a:Addr) (u:HO):Prop:=H a=some u∨∃ o,H a=some (.frz o u)
theorem Rd.ok {P:Program} {w:World} {H:Hp} {h:Heap} {a:Addr} {u:HO} (r:Rd H a u) (x:HOk P w H h):cT P w H h a u:=by
 rcases r with r | ⟨o,r⟩
 ·exact x a u r
 ·obtain⟨_,q⟩:=x a _ r
  exact q
def Mut:Option HO→Prop
 | some (.lst _)=>True
 | some (.dK _)=>True
 | some (.dT _)=>True
 | some (.set _ _)=>True
 | some (.ins _ _ _)=>True
 | some (.ext _)=>True
 | _=>False
section
variable {P:Program} {w:World} {H:Hp} {h h':Heap} {x e:Addr} {o':HO}
theorem HOk.write (ok:HOk P w H h) (mu:Mut (H x)) (he:e=x∨H e=some (.own x)) (k:∀ b u,b≠e→h.get? b=some u→h'.get? b=some u) (heo:∃ u,h'.get? e=some u)
  (new:cT P w (upd H x o') h' x o'):HOk P w (upd H x o') h':=fun b u q=>by
 have nown:∀ c y,H c=some (.own y)→c≠x:=fun c y r z=>by subst z;rw[r] at mu;exact mu
 have ntup:∀ c xs,H c=some (.tup xs)→c≠x:=fun c xs r z=>by subst z;rw[r] at mu;exact mu
 by_cases hb:b=x
 ·subst hb;rw[aD] at q;cases q;exact new
 ·rw[ak hb] at q
  by_cases hbe:b=e
  ·have q':H b=some (.own x):=by
    rcases he with z | z
    ·exact absurd (hbe.trans z) hb
    ·rw[hbe];exact z
   rw[q] at q';cases q'
   obtain⟨v,hv⟩:=heo
   exact⟨v,by rw[hbe];exact hv⟩
  ·refine(ok b u q).nW (fun c v hc r=>k c v ?_ r) (fun c r=>by rw[ak (nown c b r)];exact r) fun c xs r=>by rw[ak (ntup c xs r)];exact r
   rcases hc with rfl | hc
   ·exact hbe
   ·rintro rfl
    rcases he with z | z
    ·exact nown c b hc z
    ·rw[hc] at z;cases z;exact hb rfl
end
structure Un (fs ex:List Addr) (H H':Hp) (h h':Heap):Prop where
 keep:∀ b o,h.get? b=some o→H b=none→b∉fs→b∉ex→h'.get? b=some o
 slot:∀ b o,h.get? b=some o→H b=none→b∈fs→b∉ex→∃ sl,h'.get? b=some { o with slots:=sl }
 free:∀ b o,h.get? b=some o→H b=none→b∉ex→H' b=none
 there:∀ b o,h.get? b=some o→b∉ex→∃ o',h'.get? b=some o'
 tups:∀ b xs,H b=some (.tup xs)→H' b=some (.tup xs)
 jR:∀ b o u,H b=some (.frz o u)→H' b=some (.frz o u)
 tbls:∀ b ps,H b=some (.tbl ps)→∃ more,H' b=some (.tbl (ps++more))
section
variable {fs fs' ex ex':List Addr} {H H1 H2:Hp} {h h1 h2 h':Heap} {a x e:Addr} {o:HO}
theorem Un.any (u:Un fs ex H H1 h h1) {b:Addr} {ob:Obj} (q:h.get? b=some ob) (n:H b=none) (hx:b∉ex):∃ sl,h1.get? b=some { ob with slots:=sl }:=by
 by_cases hb:b∈fs
 ·exact u.slot b ob q n hb hx
 ·exact⟨ob.slots,u.keep b ob q n hb hx⟩
theorem Un.kept (k:∀ b u,h.get? b=some u→h'.get? b=some u):Un fs ex H H h h':=
 ⟨fun b ob q _ _ _=>k b ob q,fun b ob q _ _ _=>⟨ob.slots,k b ob q⟩,fun _ _ _ n _=>n,fun b ob q _=>⟨ob,k b ob q⟩,fun _ _ q=>q,fun _ _ _ q=>q,fun _ ps q=>⟨#[],by rw[q];simp⟩⟩
theorem Un.refl:Un fs ex H H h h:=Un.kept fun _ _ q=>q
theorem Un.laid (k:∀ b u,h.get? b=some u→h'.get? b=some u) (hp:h.objs.size≤a) (hn:H a=none):Un fs ex H (upd H a o) h h' where
 keep:=fun b u q _ _ _=>k b u q
 slot:=fun b u q _ _ _=>⟨u.slots,k b u q⟩
 free:=fun b u q n _=>by rw[ak (Nat.ne_of_lt (Nat.lt_of_lt_of_le (Heap.lt_size q) hp))];exact n
 there:=fun b u q _=>⟨u,k b u q⟩
 tups:=fun b xs q=>by rw[ak (bL q hn)];exact q
 jR:=fun b u xs q=>by rw[ak (bL q hn)];exact q
 tbls:=fun b ps q=>⟨#[],by rw[ak (bL q hn),q];simp⟩
theorem Un.write (mu:Mut (H x)) (he:e=x∨H e=some (.own x)) (k:∀ b u,b≠e→h.get? b=some u→h'.get? b=some u) (heo:∃ u,h'.get? e=some u):Un fs ex H (upd H x o) h h':=by
 have hx:∀ b,H b=none→b≠x:=fun b n z=>by subst z;rw[n] at mu;exact mu
 have hb:∀ b,H b=none→b≠e:=fun b n z=>by
  subst z
  rcases he with r | r
  ·exact hx b n r
  ·rw[n] at r;cases r
 have hm:∀ b u,H b=some u→¬ Mut (some u)→b≠x:=fun b u q nm z=>by subst z;rw[q] at mu;exact nm mu
 refine⟨fun b u q n _ _=>k b u (hb b n) q,fun b u q n _ _=>⟨u.slots,k b u (hb b n) q⟩,fun b u q n _=>by rw[ak (hx b n)];exact n,fun b u q _=>?_,
  fun b xs q=>by rw[ak (hm b _ q fun z=>z)];exact q,fun b u xs q=>by rw[ak (hm b _ q fun z=>z)];exact q,fun b ps q=>⟨#[],by rw[ak (hm b _ q fun z=>z),q];simp⟩⟩
 by_cases hbe:b=e
 ·subst hbe;exact heo
 ·exact⟨u,k b u hbe q⟩
end
def trk (h:Heap) (H:Hp):List Addr:=(List.range h.objs.size).filter fun a=>(H a).isSome
def oB (h:Heap) (H:Hp):Heap:=PySem.W.hideAll h (trk h H)
theorem uh (h:Heap) (H:Hp):(oB h H).objs.size=h.objs.size:=PySem.W.hideAll_size _ _
theorem wk {h:Heap} {H:Hp} {b:Addr} {o:Obj} (e:h.get? b=some o) (n:H b=none):(oB h H).get? b=some o:=
 PySem.W.hideAll_get _ e fun hm=>by
  have q:(H b).isSome=true:=(List.mem_filter.mp hm).2
  rw[n] at q;simp at q
theorem yn {h:Heap} {H:Hp} {b:Addr} {o:Obj} (e:(oB h H).get? b=some o):h.get? b=some o∧H b=none:=by
 have e':h.get? b=some o:=PySem.W.of_hideAll (trk h H) e
 refine⟨e',?_⟩
 cases q:H b with
 | none=>rfl
 | some x=>
  have hm:b∈trk h H:=List.mem_filter.mpr ⟨List.mem_range.mpr (Heap.lt_size e'),by simp [q]⟩
  have z:(oB h H).get? b=none:=PySem.W.hideAll_none (trk h H) hm
  rw[z] at e;cases e
def zi (g h:Heap) (L:Addr):List (Addr×Obj):=(List.range h.objs.size).filterMap fun a=>if a=L∨(g.get? a).isSome=true then none else (h.get? a).map fun o=>(a,o)
def rest (g h:Heap) (L d:Addr):List (Addr×Obj):=(zi g h L).filter fun p=>decide (p.1≠d)
end L2
namespace L2
open PySem PySem.Spec PyProof.Rows
structure Mod (K:PySem.W.Frag) (mg:Str→Option Value) (base:Heap):Prop where
 kin:K.In base
 glob:base.Ns mainGlobals mg
 blt:∃ mb,base.Ns builtinsNs mb∧∀ x:Str,x≠"__name__"→mb x=bootBuiltins x
 nolimit:base.NoLimit
structure Cx where
 prog:Program
 w:World
 K:PySem.W.Frag
 mg:Str→Option Value
 base:Heap
 A:Around
 N:List Str
 s₀:Shared
 H₀:Hp
 env:Env
 outer:List Env
 stack:List Env
 ex:List Addr
 fn:Str→Bool
 calm:Bool
 pn:List (Addr×Obj)
 xe:Value→Shared→Prop
def frs (l:List Env):List Addr:=l.filterMap (·.frame)
abbrev Cx.fs (X:Cx):List Addr:=frs X.outer
def Vis (sc:Scope) (x:Str):Prop:=sc.names.lookup x=some .local∨sc.names.lookup x=some .cell∨sc.names.lookup x=some .free
def Loc (sc:Scope) (x:Str):Prop:=sc.names.lookup x=some .local∨sc.names.lookup x=some .cell
def Look (env:Env) (h:Heap) (m:Str→Option Value) (x:Str) (u:Value):Prop:=
 (env.kindOf x=some .local∧m x=some u)∨((env.kindOf x=some .cell∨env.kindOf x=some .free)∧∃ c,env.cells.lookup x=some c∧h.IsCell c (some u))
structure Cx.Ok (X:Cx):Prop where
 mod:Mod X.K X.mg X.base
 kind:X.env.scope.kind=.function
 glob:X.env.globals=mainGlobals
 blt:X.env.builtins=builtinsNs
 above:X.s₀.heap.objs.size≤X.env.locals
 inj:∀ x y c,X.env.cells.lookup x=some c→X.env.cells.lookup y=some c→x=y
 has:∀ x,(X.env.kindOf x=some .cell∨X.env.kindOf x=some .free)→∃ c,X.env.cells.lookup x=some c
 cab:∀ x c,X.fn x=true→X.env.cells.lookup x=some c→X.s₀.heap.objs.size≤c
 hd:X.calm=true→X.A.handled=none
 frames:X.A.frames=some X.stack
 stk:X.stack=X.outer∨(X.stack=X.env::X.outer∧X.env.frame=some X.env.locals)
 exf:∀ b∈X.ex,b≠X.env.locals∧∀ x c,X.env.cells.lookup x=some c→c≠b
 bs:∀ b o,X.base.get? b=some o→X.s₀.heap.get? b=some o∧X.H₀ b=none
 bsz:X.base.objs.size≤X.s₀.heap.objs.size
 noex:∀ b o,X.base.get? b=some o→b∉X.ex
 exfs:∀ b∈X.ex,b∉X.fs
 kd:X.s₀.heap.FunFrames X.base X.outer
 frf:∀ b∈X.fs,X.H₀ b=none
structure Inv (X:Cx) (pins:List (Addr×Obj)) (σ:List (Option V)) (H:Hp) (s:Shared):Prop where
 ok:X.Ok
 os:s.os=X.s₀.os
 bare:AllBare s.gens
 base:Un X.fs X.ex X.H₀ H X.s₀.heap s.heap
 loc:∃ m,s.heap.Ns X.env.locals m∧∀ (i:Nat) (x:Str) (v:V),X.N[i]?=some x→σ[i]?=some (some v)→Vis X.env.scope x→∃ u,RelV v u∧Look X.env s.heap m x u
 cell:∀ x c,X.env.cells.lookup x=some c→∃ v,s.heap.IsCell c v
 free:H X.env.locals=none
 freeC:∀ x c,X.env.cells.lookup x=some c→H c=none
 pin:∀ p∈X.pn++pins,s.heap.get? p.1=some p.2∧H p.1=none∧p.1≠X.env.locals∧p.1∉X.fs∧∀ v,p.2.data≠.cell v
 hok:HOk X.prog X.w H s.heap
 len:σ.length=X.N.length
section
variable {X:Cx} {pins:List (Addr×Obj)} {σ:List (Option V)} {H H':Hp} {s:Shared} {h':Heap}
theorem Cx.Ok.FC (ok:X.Ok) {b:Addr} {o:Obj} (e:X.base.get? b=some o):b∉X.fs:=fun hb=>by
 have:=(ok.kd.mem hb).1
 rw[e] at this;cases this
theorem Inv.bs (I:Inv X pins σ H s):∀ b o,X.base.get? b=some o→s.heap.get? b=some o∧H b=none:=fun b o e=>
 ⟨I.base.keep b o (I.ok.bs b o e).1 (I.ok.bs b o e).2 (I.ok.FC e) (I.ok.noex b o e),I.base.free b o (I.ok.bs b o e).1 (I.ok.bs b o e).2 (I.ok.noex b o e)⟩
theorem Inv.bk (I:Inv X pins σ H s):∀ b o,X.base.get? b=some o→s.heap.get? b=some o:=fun b o e=>(I.bs b o e).1
theorem Inv.mod (I:Inv X pins σ H s):Mod X.K X.mg X.base:=I.ok.mod
theorem Inv.kIn (I:Inv X pins σ H s):X.K.In s.heap:=I.ok.mod.kin.keeps I.bk
theorem Inv.lt (I:Inv X pins σ H s):X.env.locals < s.heap.objs.size:=let ⟨_,hn,_⟩:=I.loc;hn.lt
theorem Inv.sz (I:Inv X pins σ H s):X.s₀.heap.objs.size≤s.heap.objs.size:=Nat.le_trans I.ok.above (Nat.le_of_lt I.lt)
theorem Inv.FA (I:Inv X pins σ H s) {a:Addr} (h:s.heap.objs.size≤a):a∉X.fs:=fun hb=>by
 obtain⟨_,o,ho,_⟩:=I.ok.kd.mem hb
 exact absurd (Nat.lt_of_lt_of_le (Heap.lt_size ho) (Nat.le_trans I.sz h)) (Nat.lt_irrefl _)
theorem Inv.cne (I:Inv X pins σ H s):∀ x c,X.env.cells.lookup x=some c→c≠X.env.locals:=fun x c e z=>by
 obtain⟨v,o,ho,hd⟩:=I.cell x c e
 obtain⟨m,⟨o',es,ep,ho',hd',_⟩,_⟩:=I.loc
 rw[z,ho'] at ho;cases ho;rw[hd'] at hd;cases hd
theorem Inv.kd (I:Inv X pins σ H s):s.heap.FunFrames X.base X.outer:=by
 have all:∀ (l:List Env),(∀ b∈frs l,b∈X.fs)→X.s₀.heap.FunFrames X.base l→s.heap.FunFrames X.base l:=by
  intro l
  induction l with
  | nil=>intro _ _;trivial
  | cons env r ih=>
   intro hs hl
   obtain⟨hk,⟨L,o,hf,hn,ho,hd⟩,hr⟩:=hl
   have hL:L∈X.fs:=hs L (by unfold frs;rw[List.filterMap_cons,hf];exact List.mem_cons_self)
   obtain⟨sl,e⟩:=I.base.slot L o ho (I.ok.frf L hL) hL fun z=>I.ok.exfs L z hL
   exact⟨hk,⟨L,_,hf,hn,e,hd⟩,ih (fun b hb=>hs b (by unfold frs;rw[List.filterMap_cons,hf];exact List.mem_cons_of_mem _ hb)) hr⟩
 exact all X.outer (fun _ hb=>hb) I.ok.kd
theorem Inv.stack (I:Inv X pins σ H s):s.heap.FunFrames X.base X.stack:=by
 rcases I.ok.stk with e | ⟨e,hf⟩
 ·rw[e];exact I.kd
 ·rw[e]
  obtain⟨m,hn,_⟩:=I.loc
  refine .cons (by rw[I.ok.kind];decide) hf hn ?_ I.kd
  exact Heap.get?_none_of_le (Nat.le_trans I.ok.bsz I.ok.above)
theorem Inv.nV (I:Inv X pins σ H s):∀ b∈frs X.stack,b∈X.env.locals::X.fs:=fun b hb=>by
 rcases I.ok.stk with e | ⟨e,hf⟩
 ·rw[e] at hb;exact List.mem_cons_of_mem _ hb
 ·rw[e] at hb
  unfold frs at hb
  rw[List.filterMap_cons,hf] at hb
  exact hb
theorem Inv.sk (I:Inv X pins σ H s):∀ b∈frs X.stack,H b=none:=fun b hb=>by
 rcases List.mem_cons.mp (I.nV b hb) with e | hb
 ·rw[e];exact I.free
 ·obtain⟨_,o,ho,_⟩:=I.ok.kd.mem hb
  exact I.base.free b o ho (I.ok.frf b hb) fun z=>I.ok.exfs b z hb
theorem Inv.step {g':Array GenState} {t':Nat} {d':Drawn} {ch:List Addr} (I:Inv X pins σ H s)
  (hch:∀ b∈ch,(b∈X.ex∨X.s₀.heap.objs.size≤b)∧b≠X.env.locals∧(∀ x c,X.env.cells.lookup x=some c→c≠b)∧∀ p∈X.pn++pins,p.1≠b)
  (keep:∀ b o,b≠X.env.locals→b∉X.fs→b∉ch→s.heap.get? b=some o→H b=none→h'.get? b=some o)
  (slot:∀ b o,b≠X.env.locals→b∈X.fs→b∉ch→s.heap.get? b=some o→H b=none→∃ sl,h'.get? b=some { o with slots:=sl }) (free:∀ b o,b∉ch→s.heap.get? b=some o→H b=none→H' b=none)
  (there:∀ b o,b∉ch→s.heap.get? b=some o→∃ o',h'.get? b=some o')
  (tups:∀ b xs,H b=some (.tup xs)→H' b=some (.tup xs)) (jR:∀ b o u,H b=some (.frz o u)→H' b=some (.frz o u)) (tbls:∀ b ps,H b=some (.tbl ps)→∃ more,H' b=some (.tbl (ps++more)))
  (ns:∀ m,s.heap.Ns X.env.locals m→h'.Ns X.env.locals m) (hok:HOk X.prog X.w H' h') (hg:AllBare g') :
  Inv X pins σ H' { s with heap:=h',gens:=g',drawn:=d',toks:=t' }:=by
 have neL:∀ b o,X.s₀.heap.get? b=some o→b≠X.env.locals:=fun b o e=>Nat.ne_of_lt (Nat.lt_of_lt_of_le (Heap.lt_size e) I.ok.above)
 have neC:∀ b o,X.s₀.heap.get? b=some o→b∉X.ex→b∉ch:=fun b o e hx hb=>by
  rcases(hch b hb).1 with z | z
  ·exact hx z
  ·exact absurd (Nat.lt_of_lt_of_le (Heap.lt_size e) z) (Nat.lt_irrefl _)
 have cellK:∀ x c,X.env.cells.lookup x=some c→∀ v,s.heap.IsCell c v→h'.IsCell c v:=fun x c e v ⟨o,ho,hd⟩=>by
  have nch:c∉ch:=fun z=>(hch c z).2.2.1 x c e rfl
  by_cases hc:c∈X.fs
  ·obtain⟨sl,q⟩:=slot c o (I.cne x c e) hc nch ho (I.freeC x c e)
   exact⟨_,q,hd⟩
  ·exact⟨o,keep c o (I.cne x c e) hc nch ho (I.freeC x c e),hd⟩
 refine⟨I.ok,I.os,hg,⟨fun b o e n hb hx=>?_,fun b o e n hb hx=>?_,fun b o e n hx=>?_,fun b o e hx=>?_,fun b xs e=>tups b xs (I.base.tups b xs e),fun b o xs e=>jR b o xs (I.base.jR b o xs e),fun b ps e=>?_⟩,?_,fun x c e=>?_,?_,fun x c e=>?_,fun p hp=>?_,hok,I.len⟩
 ·exact keep b o (neL b o e) hb (neC b o e hx) (I.base.keep b o e n hb hx) (I.base.free b o e n hx)
 ·obtain⟨sl,e1⟩:=I.base.slot b o e n hb hx
  obtain⟨sl',e2⟩:=slot b _ (neL b o e) hb (neC b o e hx) e1 (I.base.free b o e n hx)
  exact⟨sl',e2⟩
 ·obtain⟨o',e1⟩:=I.base.there b o e hx
  exact free b o' (neC b o e hx) e1 (I.base.free b o e n hx)
 ·obtain⟨o',e1⟩:=I.base.there b o e hx
  exact there b o' (neC b o e hx) e1
 ·obtain⟨m1,e1⟩:=I.base.tbls b ps e
  obtain⟨m2,e2⟩:=tbls b _ e1
  exact⟨m1++m2,by rw[e2,Array.append_assoc]⟩
 ·obtain⟨m,hn,hl⟩:=I.loc
  refine⟨m,ns m hn,fun i x v e1 e2 e3=>?_⟩
  obtain⟨u,r,l⟩:=hl i x v e1 e2 e3
  refine⟨u,r,?_⟩
  rcases l with l | ⟨k,c,e,z⟩
  ·exact .inl l
  ·exact .inr ⟨k,c,e,cellK x c e _ z⟩
 ·obtain⟨v,z⟩:=I.cell x c e
  exact⟨v,cellK x c e v z⟩
 ·obtain⟨m,⟨o,_,_,ho,_⟩,_⟩:=I.loc
  exact free _ o (fun z=>(hch _ z).2.1 rfl) ho I.free
 ·obtain⟨v,o,ho,hd⟩:=I.cell x c e
  exact free c o (fun z=>(hch c z).2.2.1 x c e rfl) ho (I.freeC x c e)
 ·obtain⟨e,n,ne,nf,d⟩:=I.pin p hp
  have nch:p.1∉ch:=fun z=>(hch p.1 z).2.2.2 p hp rfl
  exact⟨keep p.1 p.2 ne nf nch e n,free p.1 p.2 nch e n,ne,nf,d⟩
theorem Inv.un {t':Nat} (I:Inv X pins σ H s) (u:Un X.fs [] H H' s.heap h') (hok:HOk X.prog X.w H' h'):Inv X pins σ H' { s with heap:=h',toks:=t' }:=by
 obtain⟨m,⟨o,es,ep,ho,r⟩,_⟩:=id I.loc
 obtain⟨sl,hL⟩:=u.any ho I.free (by simp)
 exact I.step (g':=s.gens) (d':=s.drawn) (ch:=[]) (fun _ z=>nomatch z) (fun b o _ hb _ e n=>u.keep b o e n hb (by simp)) (fun b o _ hb _ e n=>u.slot b o e n hb (by simp)) (fun b o _ e n=>u.free b o e n (by simp)) (fun b o _ e=>u.there b o e (by simp)) u.tups u.jR u.tbls (fun m' hm=>by
  obtain⟨o',es',ep',ho',r'⟩:=hm
  rw[ho] at ho';cases ho'
  exact⟨_,es',ep',hL,r'⟩) hok I.bare
theorem Inv.call {g':Array GenState} {t':Nat} {d':Drawn} {ch:List Addr} (I:Inv X pins σ H s) (u:Un (frs X.stack) ch H H' s.heap h') (hok:HOk X.prog X.w H' h') (hg:AllBare g')
  (hch:∀ b∈ch,(b∈X.ex∨X.s₀.heap.objs.size≤b)∧b≠X.env.locals∧(∀ x c,X.env.cells.lookup x=some c→c≠b)∧∀ p∈X.pn++pins,p.1≠b) :
  Inv X pins σ H' { s with heap:=h',gens:=g',drawn:=d',toks:=t' }:=by
 obtain⟨m,⟨o,es,ep,ho,r⟩,_⟩:=id I.loc
 obtain⟨sl,hL⟩:=u.any ho I.free fun z=>(hch _ z).2.1 rfl
 exact I.step (ch:=ch) hch (fun b o hL hb hc e n=>u.keep b o e n (fun z=>(List.mem_cons.mp (I.nV b z)).elim hL hb) hc) (fun b o _ _ hc e n=>u.any e n hc) (fun b o hc e n=>u.free b o e n hc) (fun b o hc e=>u.there b o e hc) u.tups u.jR u.tbls (fun m' hm=>by
  obtain⟨o',es',ep',ho',r'⟩:=hm
  rw[ho] at ho';cases ho'
  exact⟨_,es',ep',hL,r'⟩) hok hg
theorem Inv.turned {t':Nat} {it:Addr} (I:Inv X pins σ H s) (k:∀ b o,b≠it→s.heap.get? b=some o→h'.get? b=some o) (hn:H it=none) (hL:it≠X.env.locals)
  (h1:it∈X.ex∨X.s₀.heap.objs.size≤it) (h2:∀ x c,X.env.cells.lookup x=some c→c≠it) (h3:∀ p∈X.pn++pins,p.1≠it):Inv X pins σ H { s with heap:=h',toks:=t' }:=by
 have nit:∀ b u,H b=some u→b≠it:=fun b u e z=>by rw[z,hn] at e;cases e
 refine I.step (g':=s.gens) (d':=s.drawn) (ch:=[it]) (fun b hb=>?_) (fun b o _ _ hc e _=>k b o (fun z=>hc (by simp [z])) e) (fun b o _ _ hc e _=>⟨o.slots,k b o (fun z=>hc (by simp [z])) e⟩) (fun _ _ _ _ n=>n)
  (fun b o hc e=>⟨o,k b o (fun z=>hc (by simp [z])) e⟩) (fun _ _ e=>e) (fun _ _ _ e=>e) (fun b ps e=>⟨#[],by rw[e];simp⟩) (fun m hm=>?_) (fun b u e=>?_) I.bare
 ·have e:b=it:=by simpa using hb
  subst e
  exact⟨h1,hL,h2,h3⟩
 ·obtain⟨o,es,ep,ho,r⟩:=hm
  exact⟨o,es,ep,k _ o (Ne.symm hL) ho,r⟩
 ·refine(I.hok b u e).nW (fun c v hc q=>k c v ?_ q) (fun _ q=>q) fun _ _ q=>q
  rcases hc with z | z
  ·rw[z];exact nit b u e
  ·exact nit c _ z
theorem Inv.tok (I:Inv X pins σ H s) (t:Nat):Inv X pins σ H { s with toks:=t }:=I.un (h':=s.heap) (t':=t) Un.refl I.hok
theorem Inv.kept {t':Nat} (I:Inv X pins σ H s) (k:∀ b u,s.heap.get? b=some u→h'.get? b=some u):Inv X pins σ H { s with heap:=h',toks:=t' }:=I.un (Un.kept k) (I.hok.kept k)
theorem Inv.laid {a:Addr} {o:HO} {t':Nat} (I:Inv X pins σ H s) (k:∀ b u,s.heap.get? b=some u→h'.get? b=some u) (hp:s.heap.objs.size≤a) (new:cT X.prog X.w (upd H a o) h' a o) :
  Inv X pins σ (upd H a o) { s with heap:=h',toks:=t' }:=I.un (Un.laid k hp (I.hok.fresh hp)) (I.hok.laid k hp new)
theorem Inv.write {x e:Addr} {o:HO} {t':Nat} (I:Inv X pins σ H s) (mu:Mut (H x)) (he:e=x∨H e=some (.own x)) (k:∀ b u,b≠e→s.heap.get? b=some u→h'.get? b=some u) (heo:∃ u,h'.get? e=some u)
  (new:cT X.prog X.w (upd H x o) h' x o):Inv X pins σ (upd H x o) { s with heap:=h',toks:=t' }:=I.un (Un.write mu he k heo) (I.hok.write mu he k heo new)
theorem Inv.gG {pins':List (Addr×Obj)} (I:Inv X pins σ H s) (h:∀ p∈pins',s.heap.get? p.1=some p.2∧H p.1=none∧p.1≠X.env.locals∧p.1∉X.fs∧∀ v,p.2.data≠.cell v):Inv X pins' σ H s:=
 ⟨I.ok,I.os,I.bare,I.base,I.loc,I.cell,I.free,I.freeC,fun p hp=>(List.mem_append.mp hp).elim (fun z=>I.pin p (List.mem_append_left _ z)) (h p),I.hok,I.len⟩
theorem pP {N:List Str} (hN:N.Nodup) {i j:Nat} {x:Str} (a:N[i]?=some x) (b:N[j]?=some x):i=j:=by
 obtain⟨h1,e1⟩:=List.getElem?_eq_some_iff.mp a
 obtain⟨h2,e2⟩:=List.getElem?_eq_some_iff.mp b
 exact(List.getElem_inj hN).mp (e1.trans e2.symm)
theorem m4 {M:Model} {A:Around} {E:Value→Shared→Prop} {i:Nat} {x:Str} {v:V} {u:Value} {Q:Unit→Shared→Prop} (I:Inv X pins σ H s) (hN:X.N.Nodup) (hi:X.N[i]?=some x) (hx:Loc X.env.scope x) (r:RelV v u)
  (h:∀ s',Inv X pins (σ.set i (some v)) H s'→(∃ a,Heap.SameBut a s.heap s'.heap∧(a=X.env.locals∨X.env.cells.lookup x=some a))→Q () s') (hf:X.fn x=true∨X.env.scope.names.lookup x=some .local:=by first | exact .inl rfl | exact .inr rfl | assumption):wpAny M A (storeName X.env x u) Q E s:=by
 obtain⟨m,hn,hl⟩:=id I.loc
 have hcls:(X.env.scope.kind == .class || (X.env.scope.kind == .module && X.env.locals != X.env.globals))=false:=by rw[I.ok.kind];rfl
 have hiσ:i < σ.length:=by rw[I.len];exact(List.getElem?_eq_some_iff.mp hi).1
 have cne:=I.cne
 have tracked:∀ {a:Addr} {h':Heap},(∃ o,s.heap.get? a=some o∧H a=none)→Heap.SameBut a s.heap h'→HOk X.prog X.w H h':=fun {a h'} ha hs b ob e=>by
  obtain⟨_,_,hfree⟩:=ha
  refine(I.hok b ob e).nW (fun c w' hc q=>(hs.2 c ?_).trans q) (fun _ q=>q) fun _ _ q=>q
  rintro rfl
  rcases hc with rfl | hc
  ·rw[hfree] at e;cases e
  ·rw[hfree] at hc;cases hc
 rcases hx with hk | hk
 ·refine wpAny_storeName_local hk hn (fun h' hn' hs=>?_) hcls
  obtain⟨oL,_,_,hoL,_⟩:=id hn
  refine h _ ⟨I.ok,I.os,I.bare,⟨fun b o e n hb hx=>?_,fun b o e n hb hx=>?_,I.base.free,fun b o e hx=>?_,I.base.tups,I.base.jR,I.base.tbls⟩,⟨_,hn',fun j y v' e1 e2 e3=>?_⟩,fun y c e=>?_,I.free,I.freeC,fun p hp=>?_,tracked ⟨oL,hoL,I.free⟩ hs,by simpa using I.len⟩ ⟨_,hs,.inl rfl⟩
  ·exact(hs.2 b (Nat.ne_of_lt (Nat.lt_of_lt_of_le (Heap.lt_size e) I.ok.above))).trans (I.base.keep b o e n hb hx)
  ·obtain⟨sl,e1⟩:=I.base.slot b o e n hb hx
   exact⟨sl,(hs.2 b (Nat.ne_of_lt (Nat.lt_of_lt_of_le (Heap.lt_size e) I.ok.above))).trans e1⟩
  ·obtain⟨o',e1⟩:=I.base.there b o e hx
   exact⟨o',(hs.2 b (Nat.ne_of_lt (Nat.lt_of_lt_of_le (Heap.lt_size e) I.ok.above))).trans e1⟩
  ·by_cases hj:j=i
   ·subst hj
    rw[hi] at e1;cases e1
    rw[List.getElem?_set_self hiσ] at e2
    cases e2
    exact⟨u,r,.inl ⟨hk,by simp⟩⟩
   ·rw[List.getElem?_set_ne (Ne.symm hj)] at e2
    obtain⟨u',r',q⟩:=hl j y v' e1 e2 e3
    refine⟨u',r',?_⟩
    rcases q with ⟨k,e⟩ | ⟨k,c,e,z⟩
    ·refine .inl ⟨k,?_⟩
     have:y≠x:=fun e=>hj (pP hN e1 (e ▸ hi))
     simp [this,e]
    ·exact .inr ⟨k,c,e,z.sameBut hs (cne y c e)⟩
  ·obtain⟨w',z⟩:=I.cell y c e
   exact⟨w',z.sameBut hs (cne y c e)⟩
  ·obtain⟨e,n,ne,nf,d⟩:=I.pin p hp
   exact⟨(hs.2 p.1 ne).trans e,n,ne,nf,d⟩
 ·have hfn:X.fn x=true:=by
   rcases hf with z | z
   ·exact z
   ·rw[z] at hk;cases hk
  obtain⟨c,hc⟩:=I.ok.has x (.inl hk)
  obtain⟨w',z⟩:=I.cell x c hc
  refine wpAny_storeName_cell I.ok.kind hk hc z (fun h' hc' hs=>?_)
  obtain⟨oc,hoc,hocd⟩:=id z
  refine h { s with heap:=h' } ⟨I.ok,I.os,I.bare,⟨fun b o e n hb hx=>?_,fun b o e n hb hx=>?_,I.base.free,fun b o e hx=>?_,I.base.tups,I.base.jR,I.base.tbls⟩,⟨m,hn.sameBut hs (Ne.symm (cne x c hc)),fun j y v' e1 e2 e3=>?_⟩,fun y c' e=>?_,I.free,I.freeC,fun p hp=>?_,tracked ⟨oc,hoc,I.freeC x c hc⟩ hs,by simpa using I.len⟩ ⟨c,hs,.inr hc⟩
  ·exact(hs.2 b (Nat.ne_of_lt (Nat.lt_of_lt_of_le (Heap.lt_size e) (I.ok.cab x c hfn hc)))).trans (I.base.keep b o e n hb hx)
  ·obtain⟨sl,e1⟩:=I.base.slot b o e n hb hx
   exact⟨sl,(hs.2 b (Nat.ne_of_lt (Nat.lt_of_lt_of_le (Heap.lt_size e) (I.ok.cab x c hfn hc)))).trans e1⟩
  ·obtain⟨o',e1⟩:=I.base.there b o e hx
   exact⟨o',(hs.2 b (Nat.ne_of_lt (Nat.lt_of_lt_of_le (Heap.lt_size e) (I.ok.cab x c hfn hc)))).trans e1⟩
  ·by_cases hj:j=i
   ·subst hj
    rw[hi] at e1;cases e1
    rw[List.getElem?_set_self hiσ] at e2
    cases e2
    exact⟨u,r,.inr ⟨.inl hk,c,hc,hc'⟩⟩
   ·rw[List.getElem?_set_ne (Ne.symm hj)] at e2
    obtain⟨u',r',q⟩:=hl j y v' e1 e2 e3
    refine⟨u',r',?_⟩
    rcases q with q | ⟨k,c',e,z'⟩
    ·exact .inl q
    ·refine .inr ⟨k,c',e,z'.sameBut hs ?_⟩
     rintro rfl
     exact hj (pP hN e1 (I.ok.inj _ _ _ e hc ▸ hi))
  ·by_cases hcc:c'=c
   ·subst hcc;exact⟨_,hc'⟩
   ·obtain⟨w2,z2⟩:=I.cell y c' e
    exact⟨w2,z2.sameBut hs hcc⟩
  ·obtain⟨e,n,ne,nf,d⟩:=I.pin p hp
   refine⟨(hs.2 p.1 ?_).trans e,n,ne,nf,d⟩
   intro q
   rw[q,hoc] at e
   have q':oc=p.2:=Option.some.inj e
   exact d w' (by rw[← q'];exact hocd)
theorem o8 {M:Model} {A:Around} {E:Value→Shared→Prop} {i:Nat} {x:Str} {v:V} {u:Value} {Q:Unit→Shared→Prop} (I:Inv X pins σ H s) (hN:X.N.Nodup) (hi:X.N[i]?=some x) (hx:Loc X.env.scope x) (r:RelV v u)
  (h:∀ s',Inv X pins (σ.set i (some v)) H s'→Q () s') (hf:X.fn x=true∨X.env.scope.names.lookup x=some .local:=by first | exact .inl rfl | exact .inr rfl | assumption):wpAny M A (storeName X.env x u) Q E s:=
 m4 I hN hi hx r (fun s' I' _=>h s' I') hf
theorem Inv.Ab {s':Shared} {ch:List Addr} (I:Inv X pins σ H s) (ho:s'.os=s.os) (u:Un (frs X.stack) ch H H' s.heap s'.heap) (hok:HOk X.prog X.w H' s'.heap) (hg:AllBare s'.gens)
  (hch:∀ b∈ch,(b∈X.ex∨X.s₀.heap.objs.size≤b)∧b≠X.env.locals∧(∀ x c,X.env.cells.lookup x=some c→c≠b)∧∀ p∈X.pn++pins,p.1≠b):Inv X pins σ H' s':=by
 obtain⟨h',g',d',t',o'⟩:=s'
 have e:o'=s.os:=ho
 subst e
 exact I.call (g':=g') (t':=t') (d':=d') u hok hg hch
end
abbrev XK:=Value→Option Addr→Hp→Prop
abbrev St:=List (Option V)
abbrev VK:=V→Hp→Prop
abbrev TE:=St→Hp→VK→Prop
abbrev TT:=St→Hp→(Bool→Hp→Prop)→Prop
abbrev TA:=St→Hp→(List V→Hp→Prop)→Prop
structure Ends where
 nx:St→Hp→Prop
 rt:VK
 bk:St→Hp→Prop:=fun _ _=>False
 ct:St→Hp→Prop:=fun _ _=>False
abbrev TS:=Ends→St→Hp→Prop
def EP (X:Cx) (pins:List (Addr×Obj)) (σ:St) (Q:VK) (u:Value) (s':Shared):Prop:=∃ v H',Inv X pins σ H' s'∧RelV v u∧Q v H'
def TP (X:Cx) (pins:List (Addr×Obj)) (σ:St) (Q:Bool→Hp→Prop) (b:Bool) (s':Shared):Prop:=∃ H',Inv X pins σ H' s'∧Q b H'
def AP (X:Cx) (pins:List (Addr×Obj)) (σ:St) (Q:List V→Hp→Prop) (us:List Value) (s':Shared):Prop:=∃ vs H',Inv X pins σ H' s'∧Vals vs us∧Q vs H'
def SP (X:Cx) (pins:List (Addr×Obj)) (D:Ends) (f:Flow) (s':Shared):Prop:=
 match f with
 | .next=>∃ σ' H',Inv X pins σ' H' s'∧D.nx σ' H'
 | .brk=>∃ σ' H',Inv X pins σ' H' s'∧D.bk σ' H'
 | .cont=>∃ σ' H',Inv X pins σ' H' s'∧D.ct σ' H'
 | .ret u=>∃ v σ' H',Inv X pins σ' H' s'∧RelV v u∧D.rt v H'
def PE (X:Cx) (e:Expr) (t:TE):Prop:=
 ∀ (pins:List (Addr×Obj)) (s:Shared) (σ:St) (H:Hp) (Q:VK),Inv X pins σ H s→t σ H Q→wpAny (model X.prog X.w) X.A (eval e X.env) (EP X pins σ Q) X.xe s
def PT (X:Cx) (e:Expr) (t:TT):Prop:=
 ∀ (pins:List (Addr×Obj)) (s:Shared) (σ:St) (H:Hp) (Q:Bool→Hp→Prop),Inv X pins σ H s→t σ H Q→wpAny (model X.prog X.w) X.A (isTrue e X.env (eval e X.env)) (TP X pins σ Q) X.xe s
def PW (X:Cx) (e:Expr) (t:TT):Prop:=
 ∀ (whole:Sem Value) (pins:List (Addr×Obj)) (s:Shared) (σ:St) (H:Hp) (Q:Bool→Hp→Prop),Inv X pins σ H s→t σ H Q→wpAny (model X.prog X.w) X.A (isTrue e X.env whole) (TP X pins σ Q) X.xe s
theorem PW.pt {X:Cx} {e:Expr} {t:TT} (h:PW X e t):PT X e t:=h _
def PA (X:Cx) (es:List Expr) (t:TA):Prop:=
 ∀ (pos:Pos) (pins:List (Addr×Obj)) (s:Shared) (σ:St) (H:Hp) (Q:List V→Hp→Prop),Inv X pins σ H s→t σ H Q→wpAny (model X.prog X.w) X.A (spliced (backTo pos (starEach es X.env))) (AP X pins σ Q) X.xe s
def PS (X:Cx) (st:Stmt) (t:TS):Prop:=
 ∀ (pins:List (Addr×Obj)) (s:Shared) (σ:St) (H:Hp) (D:Ends),Inv X pins σ H s→t D σ H→wpAny (model X.prog X.w) X.A (exec st X.env) (SP X pins D) X.xe s
def PSs (X:Cx) (st:List Stmt) (t:TS):Prop:=
 ∀ (pins:List (Addr×Obj)) (s:Shared) (σ:St) (H:Hp) (D:Ends),Inv X pins σ H s→t D σ H→wpAny (model X.prog X.w) X.A (execs st X.env) (SP X pins D) X.xe s
theorem thn {α:Type} {t:Sem α} {Q Q':α→Shared→Prop} {M:Model} {A:Around} {E:Value→Shared→Prop} {s:Shared} (h:wpAny M A t Q E s) (hQ:∀ a s,Q a s→Q' a s):wpAny M A t Q' E s:=wpAny_mono h hQ fun _ _ x=>x
end L2
namespace L2
open PySem PySem.Spec PyProof.Rows
section
variable {X:Cx}
theorem bin {a b:Expr} {ta tb:TE} (ha:PE X a ta) (hb:PE X b tb) {pins:List (Addr×Obj)} {s:Shared} {σ:St} {H:Hp} {R:V→V→Hp→Prop} (I:Inv X pins σ H s) (h:ta σ H fun x H1=>tb σ H1 fun y H2=>R x y H2)
  {α:Type} {Q:α→Shared→Prop} {f:Value→Value→Sem α}
  (hf:∀ v u s2 x y H2,Inv X pins σ H2 s2→RelV x v→RelV y u→R x y H2→wpAny (model X.prog X.w) X.A (f v u) Q X.xe s2) :
  wpAny (model X.prog X.w) X.A (eval a X.env) (fun v s₁=>wpAny (model X.prog X.w) X.A (eval b X.env) (fun u s₂=>wpAny (model X.prog X.w) X.A (f v u) Q X.xe s₂) X.xe s₁) X.xe s:=by
 refine thn (ha pins s σ H _ I h) fun v s1 ⟨x,H1,I1,r1,q1⟩=>?_
 refine thn (hb pins s1 σ H1 _ I1 q1) fun u s2 ⟨y,H2,I2,r2,q2⟩=>?_
 exact hf v u s2 x y H2 I2 r1 r2 q2
def cY (i:Nat):TE:=fun σ H Q=>∃ v,σ[i]?=some (some v)∧Q v H
def tC (v:V):TE:=fun _ H Q=>Q v H
theorem qO {i:Nat} {x:Str} {pos:Pos} (hN:X.N[i]?=some x) (hv:Vis X.env.scope x) (hd:(x == ("__debug__":Str))=false:=by decide) (hcd:(x == ("__classdict__":Str))=false:=by decide):PE X (.Name x pos) (cY i):=by
 intro pins s σ H Q I h
 obtain⟨v,e,h⟩:=h
 obtain⟨m,hn,hl⟩:=I.loc
 obtain⟨u,r,l⟩:=hl i x v hN e hv
 have fin:EP X pins σ Q u s:=⟨v,H,I,r,h⟩
 rcases l with ⟨hk,hm⟩ | ⟨hk,c,hc,hcell⟩
 ·exact wpAny_Name (wpAny_loadName_local I.ok.kind hk hn hm fin) hd
 ·rcases hk with hk | hk
  ·exact wpAny_Name (wpAny_loadName_cell I.ok.kind hk hc hcell fin) hd
  ·exact wpAny_Name (wpAny_loadName_free I.ok.kind hk hc hcell fin hcd) hd
theorem og {i j pos}:PE X (.Constant (.int i) j pos) (tC (.int i)):=fun _ _ _ H _ I h=>wpAny_Constant_int ⟨.int i,H,I.tok _,⟨_,rfl⟩,h⟩
theorem Dm {b j pos}:PE X (.Constant (.bool b) j pos) (tC (.bl b)):=fun _ _ _ H _ I h=>Constant_bool ⟨.bl b,H,I,rfl,h⟩
theorem A_ {j pos}:PE X (.Constant .none j pos) (tC .non):=fun _ _ _ H _ I h=>Constant_none ⟨.non,H,I,rfl,h⟩
theorem A7 {x j pos}:PE X (.Constant (.str x) j pos) (tC (.str x)):=fun _ _ _ H _ I h=>Calls.Constant_str ⟨.str x,H,I.tok _,⟨_,rfl⟩,h⟩
def Gl (X:Cx) (x:Str):Prop:=X.env.kindOf x=some .globalImplicit
theorem oy {E:Value→Shared→Prop} {pins:List (Addr×Obj)} {s:Shared} {σ:St} {H:Hp} {x:Str} {u:Value} {pos:Pos} {Q:Value→Shared→Prop} (I:Inv X pins σ H s) (hg:Gl X x) (hm:X.mg x=some u) (h:Q u s)
  (hd:(x == ("__debug__":Str))=false:=by decide):wpAny (model X.prog X.w) X.A (eval (.Name x pos) X.env) Q E s:=
 Calls.Name_function_global I.ok.kind hg (Calls.loadGlobal_global (by rw[I.ok.glob];exact I.mod.glob.keeps I.bk) hm h) hd
theorem md {E:Value→Shared→Prop} {pins:List (Addr×Obj)} {s:Shared} {σ:St} {H:Hp} {x:Str} {u:Value} {pos:Pos} {Q:Value→Shared→Prop} (I:Inv X pins σ H s) (hg:Gl X x) (hm:X.mg x=none) (hv:bootBuiltins x=some u) (h:Q u s)
  (hn:x≠"__name__":=by decide) (hd:(x == ("__debug__":Str))=false:=by decide):wpAny (model X.prog X.w) X.A (eval (.Name x pos) X.env) Q E s:=by
 obtain⟨mb,h1,h2⟩:=I.mod.blt
 exact Calls.Name_function_global I.ok.kind hg (Calls.loadGlobal_builtin (by rw[I.ok.glob];exact I.mod.glob.keeps I.bk) hm (by rw[I.ok.blt];exact h1.keeps I.bk) ((h2 x hn).trans hv) h) hd
theorem sE {x:Str} {v:V} {u:Value} {pos:Pos} (hg:Gl X x) (hm:X.mg x=some u) (r:RelV v u) (hd:(x == ("__debug__":Str))=false:=by decide):PE X (.Name x pos) (tC v):=
 fun _ _ _ H _ I h=>oy I hg hm ⟨v,H,I,r,h⟩ hd
theorem ya {x:Str} {v:V} {u:Value} {pos:Pos} (hg:Gl X x) (hm:X.mg x=none) (hv:bootBuiltins x=some u) (r:RelV v u) (hn:x≠"__name__":=by decide) (hd:(x == ("__debug__":Str))=false:=by decide):PE X (.Name x pos) (tC v):=
 fun _ _ _ H _ I h=>md I hg hm hv ⟨v,H,I,r,h⟩ hn hd
def t2I (ta tb:TE) (k:Int→Int→Hp→Prop):St→Hp→Prop:=fun σ H=>ta σ H fun x H1=>tb σ H1 fun y H2=>∃ i j,x=.int i∧y=.int j∧k i j H2
def Hm (ta tb:TE):TE:=fun σ H Q=>t2I ta tb (fun i j H2=>Q (.int (i + j)) H2) σ H
def Ha (ta tb:TE):TE:=fun σ H Q=>t2I ta tb (fun i j H2=>Q (.int (i - j)) H2) σ H
def Hg (ta tb:TE):TE:=fun σ H Q=>t2I ta tb (fun i j H2=>(-(2 ^ 64) < i∧i < 2 ^ 64)∧Q (.int (i * j)) H2) σ H
variable {a b:Expr} {ta tb:TE} {pos:Pos}
def PC (X:Cx) (op:CmpOp) (a b:Expr) (t:TE):Prop:=
 ∀ (pins:List (Addr×Obj)) (s:Shared) (σ:St) (H:Hp) (Q:VK),Inv X pins σ H s→t σ H Q→
  wpAny (model X.prog X.w) X.A (eval a X.env) (fun v s₁=>wpAny (model X.prog X.w) X.A (eval b X.env) (fun u s₂=>wpAny (model X.prog X.w) X.A (compareOp op v u) (EP X pins σ Q) X.xe s₂) X.xe s₁) X.xe s
def tQ (p:Int→Int→Bool) (ta tb:TE):TE:=fun σ H Q=>t2I ta tb (fun i j H2=>Q (.bl (p i j)) H2) σ H
abbrev tLt:TE→TE→TE:=tQ fun i j=>decide (i < j)
abbrev tLe:TE→TE→TE:=tQ fun i j=>decide (i≤j)
abbrev tGt:TE→TE→TE:=tQ fun i j=>decide (j < i)
abbrev tGe:TE→TE→TE:=tQ fun i j=>decide (j≤i)
abbrev Hi:TE→TE→TE:=tQ fun i j=>decide (i=j)
abbrev Hf:TE→TE→TE:=tQ fun i j=>!decide (i=j)
def Hh (ta:TE):TE:=fun σ H Q=>ta σ H fun x H1=>Q (.bl (decide (x=.non))) H1
def GJ (ta:TE):TE:=fun σ H Q=>ta σ H fun x H1=>Q (.bl (!decide (x=.non))) H1
def tB (t:TE):TT:=fun σ H Q=>t σ H fun x H1=>∃ c,x=.bl c∧Q c H1
theorem Fv {op:CmpOp} {t:TE} (h:PC X op a b t) (h1:behindInMarks op b=false:=by first | exact nobehind _ (by decide) (by decide) | rfl):PT X (.Compare a [op] [b] pos) (tB t):=by
 intro pins s σ H Q I hw
 refine wpAny_isTrue_Compare1 (thn (h pins s σ H _ I hw) fun v s1 h1=>thn h1 fun u s2 h2=>thn h2 fun c s3 ⟨x,H1,I1,r1,q1⟩=>?_) h1
 obtain⟨d,rfl,q⟩:=q1
 cases r1
 exact wpAny_truthy_bool ⟨H1,I1,q⟩
theorem AV {e:Expr} {t:TE} (h:PE X e t) (he:∀ whole,isTrue e X.env whole=(do let v ← whole;standAt e.pos;holding [v] (truthy v)):=by intro _;rfl):PT X e (tB t):=by
 intro pins s σ H Q I hw
 refine isTrue_plain (thn (h pins s σ H _ I hw) fun v s1 ⟨x,H1,I1,r1,q1⟩=>?_) (he _)
 obtain⟨d,rfl,q⟩:=q1
 cases r1
 exact wpAny_truthy_bool ⟨H1,I1,q⟩
variable {tA tB':TT} {rest:List Expr}
def Ay (t u:TT):TT:=fun σ H Q=>t σ H fun c H1=>if c=true then u σ H1 Q else Q false H1
def tOr (t u:TT):TT:=fun σ H Q=>t σ H fun c H1=>if c=true then Q true H1 else u σ H1 Q
def Ax (t:TT):TT:=fun σ H Q=>t σ H fun c H1=>Q (!c) H1
theorem xV (ha:PT X a tA):PW X (.BoolOp .And [a] pos) tA:=by
 intro wh pins s σ H Q I h
 refine isTrue_and (thn (ha pins s σ H Q I h) fun c s1 e=>?_)
 cases c with
 | true=>exact isTrue_and_nil e
 | false=>exact e
theorem AQ (ha:PT X a tA):PW X (.BoolOp .Or [a] pos) tA:=by
 intro wh pins s σ H Q I h
 refine isTrue_or (thn (ha pins s σ H Q I h) fun c s1 e=>?_)
 cases c with
 | false=>exact isTrue_or_nil e
 | true=>exact e
theorem AR (ha:PT X a tA) (hb:PW X (.BoolOp .And (b::rest) pos) tB'):PW X (.BoolOp .And (a::b::rest) pos) (Ay tA tB'):=by
 intro wh pins s σ H Q I h
 refine isTrue_and (thn (ha pins s σ H _ I h) fun c s1 ⟨H1,I1,q1⟩=>?_)
 cases c with
 | true=>exact hb wh pins s1 σ H1 Q I1 q1
 | false=>exact⟨H1,I1,q1⟩
theorem Df (ha:PT X a tA) (hb:PW X (.BoolOp .Or (b::rest) pos) tB'):PW X (.BoolOp .Or (a::b::rest) pos) (tOr tA tB'):=by
 intro wh pins s σ H Q I h
 refine isTrue_or (thn (ha pins s σ H _ I h) fun c s1 ⟨H1,I1,q1⟩=>?_)
 cases c with
 | true=>exact⟨H1,I1,q1⟩
 | false=>exact hb wh pins s1 σ H1 Q I1 q1
theorem AW (ha:PT X a tA):PT X (.UnaryOp .Not a pos) (Ax tA):=by
 intro pins s σ H Q I h
 exact isTrue_not (ha pins s σ H (fun c H1=>Q (!c) H1) I h)
def zw (ta tb:TE):TE:=fun σ H Q=>ta σ H fun x H1=>∃ c,x=.bl c∧if c=true then tb σ H1 Q else Q (.bl false) H1
def Hd (ta tb:TE):TE:=fun σ H Q=>ta σ H fun x H1=>∃ c,x=.bl c∧if c=true then Q (.bl true) H1 else tb σ H1 Q
def zt (ta:TE):TE:=fun σ H Q=>ta σ H fun x H1=>∃ c,x=.bl c∧Q (.bl (!c)) H1
theorem A8 {op} {t:TE} (h:PE X a t):PE X (.BoolOp op [a] pos) t:=fun pins s σ H Q I hw=>BoolOp_one (h pins s σ H Q I hw)
theorem Bc (ha:PE X a ta) (hb:PE X (.BoolOp .And (b::rest) pos) tb):PE X (.BoolOp .And (a::b::rest) pos) (zw ta tb):=by
 intro pins s σ H Q I h
 refine BoolOp_and (thn (ha pins s σ H _ I h) fun v s1 ⟨x,H1,I1,r1,q1⟩=>?_)
 obtain⟨c,rfl,q1⟩:=q1
 cases r1
 refine wpAny_truthy_bool ?_
 cases c with
 | true=>exact hb pins s1 σ H1 Q I1 q1
 | false=>exact⟨.bl false,H1,I1,rfl,q1⟩
theorem A9 (ha:PE X a ta):PE X (.UnaryOp .Not a pos) (zt ta):=by
 intro pins s σ H Q I h
 refine UnaryOp_ (thn (ha pins s σ H _ I h) fun v s1 ⟨x,H1,I1,r1,q1⟩=>?_)
 obtain⟨c,rfl,q1⟩:=q1
 cases r1
 exact not_of (wpAny_truthy_bool ⟨.bl (!c),H1,I1,rfl,q1⟩)
def tIf (t:TT) (ta tb:TE):TE:=fun σ H Q=>t σ H fun c H1=>if c=true then ta σ H1 Q else tb σ H1 Q
end
end L2
namespace L2
open PySem PySem.Spec PyProof.Rows
def SqL (K:PySem.W.Frag) (H:Hp) (a:Addr) (xs:List V):Prop:=
 Rd H a (.lst xs)∨
  ∃ (o:Obj) (its:Array Value) (n:Nat),K.lookup a=some o∧o.cls=.type "list"∧o.dict=none∧o.data=.seq its n∧its.size≤sizeLine∧Vals xs its.toList
def SqT (K:PySem.W.Frag) (H:Hp) (a:Addr) (xs:List V):Prop:=
 Rd H a (.tup xs)∨
  ∃ (o:Obj) (its:Array Value) (n:Nat),K.lookup a=some o∧o.cls=.type "tuple"∧o.data=.seq its n∧its.size≤sizeLine∧Vals xs its.toList
def Gq:Value→Option V
 | .none=>some .non
 | .bool b=>some (.bl b)
 | .int i _=>some (.int i)
 | .str x _=>some (.str x)
 | .bytes b _=>some (.byt b)
 | .float b _=>some (.flt b)
 | .ref a=>some (.ref a)
 | .type n=>some (.ty n)
 | _=>none
theorem RelV.abs {x:V} {u:Value} (r:RelV x u):Gq u=some x:=by
 cases x with
 | non=>cases r;rfl
 | bl _=>cases r;rfl
 | int _=>obtain⟨t,rfl⟩:=r;rfl
 | str _=>obtain⟨t,rfl⟩:=r;rfl
 | byt _=>obtain⟨t,rfl⟩:=r;rfl
 | flt _=>obtain⟨t,rfl⟩:=r;rfl
 | ref _=>cases r;rfl
 | ty _=>cases r;rfl
theorem RelV.inj {x y:V} {u:Value} (r:RelV x u) (q:RelV y u):x=y:=Option.some.inj (r.abs.symm.trans q.abs)
theorem Vals.inj:∀ {xs ys:List V} {us:List Value},Vals xs us→Vals ys us→xs=ys
 | _,_,_,.nil,.nil=>rfl
 | _,_,_,.cons r t,.cons r' t'=>by rw[r.inj r',Vals.inj t t']
section
variable {X:Cx} {pins:List (Addr×Obj)} {σ:St} {H:Hp} {s:Shared} {a:Addr} {xs ys:List V}
theorem SqL.of {K:PySem.W.Frag} (h:H a=some (.lst xs)):SqL K H a xs:=.inl (.inl h)
theorem SqT.of {K:PySem.W.Frag} (h:H a=some (.tup xs)):SqT K H a xs:=.inl (.inl h)
theorem Inv.list (I:Inv X pins σ H s) (h:SqL X.K H a xs):∃ its:List Value,Vals xs its∧PlainL s.heap a its.toArray∧xs.length≤sizeLine:=by
 rcases h with h | ⟨o,its,n,hk,hc,hd,hs,hz,r⟩
 ·obtain⟨z,its,n,r,e⟩:=h.ok I.hok
  exact⟨its,r,⟨_,n,e,rfl,rfl,rfl⟩,z⟩
 ·refine⟨its.toList,r,⟨o,n,I.kIn a o hk,hc,hd,by simpa using hs⟩,?_⟩
  have e:=r.length
  simp only[Array.length_toList] at e
  omega
theorem Inv.tuple (I:Inv X pins σ H s) (h:SqT X.K H a xs):∃ its:List Value,Vals xs its∧IsTup s.heap a its.toArray∧xs.length≤sizeLine:=by
 rcases h with h | ⟨o,its,n,hk,hc,hs,hz,r⟩
 ·obtain⟨z,its,r,p⟩:=h.ok I.hok
  exact⟨its,r,p,z⟩
 ·refine⟨its.toList,r,⟨o,I.kIn a o hk,hc,n,by simpa using hs⟩,?_⟩
  have e:=r.length
  simp only[Array.length_toList] at e
  omega
theorem Inv.v7 (I:Inv X pins σ H s) (h:SqL X.K H a xs) (h':SqL X.K H a ys):xs=ys:=by
 obtain⟨its,r,⟨o,n,e,_,_,d⟩,_⟩:=I.list h
 obtain⟨its',r',⟨o',n',e',_,_,d'⟩,_⟩:=I.list h'
 rw[e] at e';cases e'
 rw[d] at d'
 injection d' with d1 _
 have:its=its':=by simpa using congrArg Array.toList d1
 subst this
 exact r.inj r'
theorem Inv.tP (I:Inv X pins σ H s) (h:SqT X.K H a xs) (h':SqT X.K H a ys):xs=ys:=by
 obtain⟨its,r,⟨o,e,_,n,d⟩,_⟩:=I.tuple h
 obtain⟨its',r',⟨o',e',_,n',d'⟩,_⟩:=I.tuple h'
 rw[e] at e';cases e'
 rw[d] at d'
 injection d' with d1 _
 have:its=its':=by simpa using congrArg Array.toList d1
 subst this
 exact r.inj r'
end
abbrev Cx.mF (X:Cx) (E:Value→Shared→Prop):Cx:={ X with xe:=E }
abbrev Cx.nox (X:Cx):Cx:=X.mF fun _ _=>False
theorem Cx.Ok.mF {X:Cx} (ok:X.Ok) (E:Value→Shared→Prop):(X.mF E).Ok:=
 ⟨ok.mod,ok.kind,ok.glob,ok.blt,ok.above,ok.inj,ok.has,ok.cab,ok.hd,ok.frames,ok.stk,ok.exf,ok.bs,ok.bsz,ok.noex,ok.exfs,ok.kd,ok.frf⟩
theorem Cx.Ok.g_ {X:Cx} {E:Value→Shared→Prop} (ok:(X.mF E).Ok):X.Ok:=
 ⟨ok.mod,ok.kind,ok.glob,ok.blt,ok.above,ok.inj,ok.has,ok.cab,ok.hd,ok.frames,ok.stk,ok.exf,ok.bs,ok.bsz,ok.noex,ok.exfs,ok.kd,ok.frf⟩
section
variable {X:Cx} {pins:List (Addr×Obj)} {σ:St} {H:Hp} {s:Shared} {E:Value→Shared→Prop}
theorem Inv.mF (I:Inv X pins σ H s) (E:Value→Shared→Prop):Inv (X.mF E) pins σ H s:=⟨I.ok.mF E,I.os,I.bare,I.base,I.loc,I.cell,I.free,I.freeC,I.pin,I.hok,I.len⟩
theorem Inv.g_ (I:Inv (X.mF E) pins σ H s):Inv X pins σ H s:=⟨I.ok.g_,I.os,I.bare,I.base,I.loc,I.cell,I.free,I.freeC,I.pin,I.hok,I.len⟩
theorem SP.g_ {D:Ends} {f:Flow} {s':Shared} (h:SP (X.mF E) pins D f s'):SP X pins D f s':=by
 cases f with
 | next=>obtain⟨σ',H',I,q⟩:=h;exact⟨σ',H',I.g_,q⟩
 | brk=>obtain⟨σ',H',I,q⟩:=h;exact⟨σ',H',I.g_,q⟩
 | cont=>obtain⟨σ',H',I,q⟩:=h;exact⟨σ',H',I.g_,q⟩
 | ret u=>obtain⟨v,σ',H',I,r,q⟩:=h;exact⟨v,σ',H',I.g_,r,q⟩
theorem PSs.nox {st:List Stmt} {t:TS} (h:PSs X.nox st t):PSs X st t:=fun pins s σ H D I hw=>
 wpAny_mono (h pins s σ H D (I.mF _) hw) (fun _ _ q=>q.g_) fun _ _ z=>False.elim z
end
section
variable {X:Cx} {st:Stmt} {rest:List Stmt} {t u:TS} {e:Expr} {te:TE} {pos:Pos}
def zu:TS:=fun D σ H=>D.nx σ H
def Aw (t u:TS):TS:=fun D σ H=>t { D with nx:=u D } σ H
theorem xZ:PSs X [] zu:=fun _ _ σ H _ I h=>wpAny_execs_nil ⟨σ,H,I,h⟩
theorem pB (h1:PS X st t) (h2:PSs X rest u):PSs X (st::rest) (Aw t u):=by
 intro pins s σ H D I h
 refine wpAny_execs_cons (thn (h1 pins s σ H { D with nx:=u D } I h) fun f s1 q=>?_)
 cases f with
 | next=>
  obtain⟨σ',H',I',q⟩:=q
  exact h2 pins s1 σ' H' D I' q
 | ret v=>exact q
 | brk=>exact q
 | cont=>exact q
theorem xY (h1:PS X st t):PSs X [st] t:=by
 intro pins s σ H D I h
 refine wpAny_execs_cons (thn (h1 pins s σ H D I h) fun f s1 q=>?_)
 cases f with
 | next=>exact wpAny_execs_nil q
 | ret v=>exact q
 | brk=>exact q
 | cont=>exact q
def Fg:TS:=fun D σ H=>D.bk σ H
def GN:TS:=fun D σ H=>D.ct σ H
theorem Inv.quiet {pins:List (Addr×Obj)} {σ:St} {H:Hp} {s:Shared} (I:Inv X pins σ H s):interactive X.env=false:=by simp [interactive,I.ok.kind]
def zv (te:TE):TS:=fun D σ H=>te σ H fun _ H1=>D.nx σ H1
theorem x4 (he:PE X e te) (hs:swapsWith e none pos.line X.env=pure false:=by rfl):PS X (.Expr e pos) (zv te):=by
 intro pins s σ H D I h
 exact wpAny_Expr_any (thn (he pins s σ H _ I h) fun v s1 ⟨x,H1,I1,r1,q1⟩=>⟨σ,H1,I1,q1⟩) I.quiet hs
def CO (te:TE):TS:=fun D σ H=>te σ H D.rt
theorem AY (he:PE X e te):PS X (.Return (some e) pos) (CO te):=by
 intro pins s σ H D I h
 exact wpAny_Return_some (thn (he pins s σ H _ I h) fun v s1 ⟨x,H1,I1,r1,q1⟩=>⟨x,σ,H1,I1,r1,q1⟩)
def GH:TS:=fun D _ H=>D.rt .non H
def CS (c:TT) (t u:TS):TS:=fun D σ H=>c σ H fun b H1=>if b=true then t D σ H1 else u D σ H1
theorem Dh {c:Expr} {a b:List Stmt} {tc:TT} (hc:PT X c tc) (ha:PSs X a t) (hb:PSs X b u):PS X (.If c a b pos) (CS tc t u):=by
 intro pins s σ H D I h
 refine wpAny_If (thn (hc pins s σ H _ I h) fun d s1 ⟨H1,I1,q1⟩=>?_)
 cases d with
 | true=>exact ha pins s1 σ H1 D I1 q1
 | false=>exact hb pins s1 σ H1 D I1 q1
def uM:TS:=fun _ _ _=>False
theorem vn:PS X st uM:=fun _ _ _ _ _ _ h=>h.elim
end
abbrev TG:=V→St→Hp→(St→Hp→Prop)→Prop
abbrev TGs:=List V→St→Hp→(St→Hp→Prop)→Prop
def PG (X:Cx) (target:Expr) (t:TG):Prop:=
 ∀ (pins:List (Addr×Obj)) (s:Shared) (σ:St) (H:Hp) (v:V) (u:Value) (Q:St→Hp→Prop),Inv X pins σ H s→RelV v u→t v σ H Q→
  wpAny (model X.prog X.w) X.A (assign target X.env u) (fun _ s'=>∃ σ' H',Inv X pins σ' H' s'∧Q σ' H') X.xe s
def PGs (X:Cx) (ts:List Expr) (t:TGs):Prop:=
 ∀ (pins:List (Addr×Obj)) (s:Shared) (σ:St) (H:Hp) (vs:List V) (us:List Value) (Q:St→Hp→Prop),Inv X pins σ H s→Vals vs us→t vs σ H Q→
  wpAny (model X.prog X.w) X.A (assignInOrder ((assignEach ts X.env).map (·.2)) us) (fun _ s'=>∃ σ' H',Inv X pins σ' H' s'∧Q σ' H') X.xe s
abbrev zo:=V→V→V→Hp→(Hp→Prop)→Prop
def EG (X:Cx) (t:zo):Prop:=
 ∀ (pins:List (Addr×Obj)) (s:Shared) (σ:St) (H:Hp) (o i v:V) (ov iv u:Value) (Q:Hp→Prop),Inv X pins σ H s→RelV o ov→RelV i iv→RelV v u→t o i v H Q→
  wpAny (model X.prog X.w) X.A (setItem ov iv u) (fun _ s'=>∃ H',Inv X pins σ H' s'∧Q H') X.xe s
abbrev TIp:=V→V→Hp→VK→Prop
def PIp (X:Cx) (op:Operator) (t:TIp):Prop:=
 ∀ (pins:List (Addr×Obj)) (s:Shared) (σ:St) (H:Hp) (x y:V) (v u:Value) (Q:VK),Inv X pins σ H s→RelV x v→RelV y u→t x y H Q→
  wpAny (model X.prog X.w) X.A (inplaceOp op v u) (EP X pins σ Q) X.xe s
section
variable {X:Cx} {pos:Pos}
def g0 (i:Nat):TG:=fun v σ H Q=>Q (σ.set i (some v)) H
theorem eB {i:Nat} {x:Str} (hN:X.N.Nodup) (hi:X.N[i]?=some x) (hx:Loc X.env.scope x) (hf:X.fn x=true∨X.env.scope.names.lookup x=some .local:=by first | exact .inl rfl | exact .inr rfl | assumption):PG X (.Name x pos) (g0 i):=by
 intro pins s σ H v u Q I r h
 exact wpAny_assign_Name (o8 I hN hi hx r (fun s' I'=>⟨_,H,I',h⟩) hf)
def D0:TGs:=fun vs σ H Q=>vs=[]∧Q σ H
def zW (t:TG) (u:TGs):TGs:=fun vs σ H Q=>∃ v r,vs=v::r∧t v σ H fun σ' H'=>u r σ' H' Q
theorem lg:PGs X [] D0:=by
 intro pins s σ H vs us Q I r h
 obtain⟨e,h⟩:=h
 subst e
 cases r
 exact assignInOrder_nil ⟨σ,H,I,h⟩
theorem eJ {e:Expr} {es:List Expr} {t:TG} {u:TGs} (h1:PG X e t) (h2:PGs X es u)
  (hs:(assignEach (e::es) X.env).map (·.2)=assign e X.env::(assignEach es X.env).map (·.2):=by rfl):PGs X (e::es) (zW t u):=by
 intro pins s σ H vs us Q I r h
 obtain⟨v,vr,e1,h⟩:=h
 subst e1
 cases r with
 | cons r rr=>
  rw[hs]
  refine assignInOrder_cons (thn (h1 pins s σ H _ _ _ I r h) fun _ s1 ⟨σ1,H1,I1,q1⟩=>?_)
  exact h2 pins s1 σ1 H1 _ _ Q I1 rr q1
def B8 (K:PySem.W.Frag) (n:Nat) (t:TGs):TG:=fun v σ H Q=>∃ a xs,v=.ref a∧SqT K H a xs∧xs.length=n∧t xs σ H Q
theorem vp {es:List Expr} {k:Nat} {t:TGs} {n:Nat} (hc:X.calm=true) (h:PGs X es t)
  (hn:(assignEach es X.env).length=n:=by rfl) (hst:(assignEach es X.env).findIdx? (·.1)=none:=by rfl):PG X (.Tuple es k pos) (B8 X.K n t):=by
 intro pins s σ H v u Q I r hw
 obtain⟨a,xs,e1,hq,hl,hw⟩:=hw
 subst e1
 cases r
 obtain⟨its,rv,ht,hz⟩:=I.tuple hq
 refine assign_Tuple_tuple (I.ok.hd hc) ht (by simp [hn,← hl,rv.length]) hst fun h' hx=>?_
 have I1:Inv X pins σ H { s with heap:=h' }:=I.kept (t':=s.toks) fun b o e=>hx b o (Nat.ne_of_lt (Heap.lt_size e)) e
 exact h pins _ σ H xs _ Q I1 (by simpa using rv) hw
def wA (to ti:TE) (t:zo):TG:=fun v σ H Q=>to σ H fun o H1=>ti σ H1 fun i H2=>t o i v H2 fun H3=>Q σ H3
theorem vt {o i:Expr} {to ti:TE} {t:zo} (ho:PE X o to) (hi:PE X i ti) (hs:EG X t)
  (ha:∀ v,assign (.Subscript o i pos) X.env v=(do
   let ov ← holding [v] (eval o X.env)
   let iv ← holding [v,ov] (eval i X.env)
   standAt pos
   holding [v,ov,iv] (setItem ov iv v)
   release [v,ov,iv] []):=by intro _;rfl):PG X (.Subscript o i pos) (wA to ti t):=by
 intro pins s σ H v u Q I r h
 rw[ha]
 refine wpAny_bind (wpAny_holding (thn (ho pins s σ H _ I h) fun ov s1 ⟨x,H1,I1,r1,q1⟩=>?_))
 refine wpAny_bind (wpAny_holding (thn (hi pins s1 σ H1 _ I1 q1) fun iv s2 ⟨y,H2,I2,r2,q2⟩=>?_))
 refine wpAny_bind (wpAny_standAt (wpAny_bind (wpAny_holding (thn (hs pins s2 σ H2 x y v ov iv u _ I2 r1 r2 r q2) fun _ s3 ⟨H3,I3,q3⟩=>?_))))
 exact wpAny_release ⟨σ,H3,I3,q3⟩
def j6 (te:TE) (g:TG):TS:=fun D σ H=>te σ H fun x H1=>g x σ H1 D.nx
theorem qN {tg e:Expr} {te:TE} {g:TG} (he:PE X e te) (hg:PG X tg g) (hs:swapsWithSole [tg] e pos.line X.env=pure false:=by rfl) (hw:swappedStores [tg] e X.env=pure none:=by rfl)
  (h1:(assignEach [tg] X.env).map (·.2)=[assign tg X.env]:=by rfl):PS X (.Assign [tg] e pos) (j6 te g):=by
 intro pins s σ H D I h
 refine wpAny_Assign_stores (thn (he pins s σ H _ I h) fun v s1 ⟨x,H1,I1,r1,q1⟩=>?_) hs hw
 rw[h1]
 exact thn (hg pins s1 σ H1 x v _ I1 r1 q1) fun _ s2 q=>q
theorem AX {i:Nat} {x:Str} {e:Expr} {te:TE} {pos':Pos} (hN:X.N.Nodup) (hi:X.N[i]?=some x) (hx:Loc X.env.scope x) (he:PE X e te) (hs:swapsWith e (some (.Name x pos')) pos.line X.env=pure false:=by rfl) (hf:X.fn x=true∨X.env.scope.names.lookup x=some .local:=by first | exact .inl rfl | exact .inr rfl | assumption) :
  PS X (.Assign [.Name x pos'] e pos) (j6 te (g0 i)):=by
 intro pins s σ H D I h
 refine wpAny_Assign_Name (thn (he pins s σ H _ I h) fun v s1 ⟨y,H1,I1,r1,q1⟩=>?_) hs
 exact o8 I1 hN hi hx r1 (fun s2 I2=>⟨_,H1,I2,q1⟩) hf
def Hc (i j:Nat) (ta:TA):TS:=fun D σ H=>ta σ H fun vs H1=>∃ v w,vs=[v,w]∧D.nx ((σ.set i (some v)).set j (some w)) H1
def Hl (i:Nat) (te:TE) (ti:TIp):TS:=fun D σ H=>∃ x,σ[i]?=some (some x)∧te σ H fun y H1=>ti x y H1 fun z H2=>D.nx (σ.set i (some z)) H2
def GO (to ti te:TE) (tget:V→V→Hp→VK→Prop) (tip:TIp) (tset:zo):TS:=fun D σ H=>to σ H fun o H1=>ti σ H1 fun i H2=>tget o i H2 fun x H3=>te σ H3 fun y H4=>tip x y H4 fun z H5=>tset o i z H5 fun H6=>D.nx σ H6
def HM (X:Cx) (t:V→V→Hp→VK→Prop):Prop:=
 ∀ (pins:List (Addr×Obj)) (s:Shared) (σ:St) (H:Hp) (o i:V) (ov iv:Value) (Q:VK),Inv X pins σ H s→RelV o ov→RelV i iv→t o i H Q→
  wpAny (model X.prog X.w) X.A (getItem ov iv) (EP X pins σ Q) X.xe s
def ipI (f:Int→Int→Int):TIp:=fun x y H Q=>∃ i j,x=.int i∧y=.int j∧Q (.int (f i j)) H
end
section
variable {X:Cx} {pos:Pos}
def E5 (c:TT) (tb:TS):TS:=fun D σ H=>∃ W:Nat→St→Hp→Prop,(∃ m,W m σ H)∧∀ m σ H,W m σ H→
 c σ H fun b H1=>if b=true then ∃ N:St→Hp→Prop,(∀ σ' H',N σ' H'→∃ m',m' < m∧W m' σ' H')∧tb { D with nx:=N,ct:=N,bk:=D.nx } σ H1 else D.nx σ H1
end
structure It where
 go:Nat→Hp→Prop
 yld:Nat→Hp→V→Hp→Prop
 stop:Nat→Hp→Prop
def gw (X:Cx) (pins:List (Addr×Obj)) (H:Hp) (b:Addr):Prop:=
 H b=none∧b≠X.env.locals∧b∉X.fs∧(b∈X.ex∨X.s₀.heap.objs.size≤b)∧(∀ x c,X.env.cells.lookup x=some c→c≠b)∧∀ p∈X.pn++pins,p.1≠b
theorem Inv.p6 {X:Cx} {pins:List (Addr×Obj)} {σ:St} {H H':Hp} {s:Shared} {b:Addr} (I:Inv X pins σ H s) (hb:s.heap.objs.size≤b) (hn:H' b=none):gw X pins H' b:=by
 refine⟨hn,Nat.ne_of_gt (Nat.lt_of_lt_of_le I.lt hb),I.FA hb,.inr (Nat.le_trans I.sz hb),fun x c e z=>?_,fun p hp z=>?_⟩
 ·obtain⟨v,q⟩:=I.cell x c e
  exact absurd (Nat.lt_of_lt_of_le q.lt (by rw[z];exact hb)) (Nat.lt_irrefl _)
 ·exact absurd (Nat.lt_of_lt_of_le (Heap.lt_size (I.pin p hp).1) (by rw[z];exact hb)) (Nat.lt_irrefl _)
structure Turn (P:Program) (w:World) (K:PySem.W.Frag) (tg:Expr) (J:It) (fp:List Addr) (it:Addr) (tn:Nat→Heap→Prop):Prop where
 mem:it∈fp
 obj:∀ i h,tn i h→∀ b∈fp,∃ o,h.get? b=some o∧∀ v,o.data≠.cell v
 keep:∀ i h h',tn i h→(∀ b∈fp,∀ o,h.get? b=some o→h'.get? b=some o)→tn i h'
 item:∀ (X:Cx),X.prog=P→X.w=w→X.K=K→X.calm=true→∀ (i:Nat) (pins:List (Addr×Obj)) (s:Shared) (σ:St) (H:Hp) (E:Value→Shared→Prop),Inv X pins σ H s→(∀ b∈fp,gw X pins H b)→tn i s.heap→J.go i H→
  wpAny (model P w) X.A (pyNext (.ref it)) (fun r s1=>∃ u,r=some u∧
   wpAny (model P w) X.A (letOwnedTupleGo tg (.ref it) u) (fun _ s2=>∃ x H',Inv X pins σ H' s2∧RelV x u∧J.yld i H x H'∧tn (i + 1) s2.heap∧∀ b∈fp,H' b=none) E s1) E s
 done:∀ (X:Cx),X.prog=P→X.w=w→X.K=K→X.calm=true→∀ (i:Nat) (pins:List (Addr×Obj)) (s:Shared) (σ:St) (H:Hp) (E:Value→Shared→Prop),Inv X pins σ H s→(∀ b∈fp,gw X pins H b)→tn i s.heap→J.stop i H→
  wpAny (model P w) X.A (pyNext (.ref it)) (fun r s1=>r=none∧Inv X pins σ H s1) E s
 self:∀ (A:Around) (i:Nat) (s:Shared) (Q:Value→Shared→Prop) (E:Value→Shared→Prop),tn i s.heap→Q (.ref it) s→wpAny (model P w) A (pyIter (.ref it)) Q E s
abbrev TI:=St→Hp→(It→Hp→Prop)→Prop
def PIE (X:Cx) (pins:List (Addr×Obj)) (σ:St) (tg:Expr) (R:It→Hp→Prop) (itv:Value) (s2:Shared):Prop:=
 ∃ (it:Addr) (fp:List Addr) (tn:Nat→Heap→Prop) (J:It) (H':Hp),itv=.ref it∧Inv X pins σ H' s2∧Turn X.prog X.w X.K tg J fp it tn∧tn 0 s2.heap∧(∀ b∈fp,gw X pins H' b)∧R J H'
def PI (X:Cx) (tg iter:Expr) (wi:TI):Prop:=
 ∀ (pins:List (Addr×Obj)) (s:Shared) (σ:St) (H:Hp) (R:It→Hp→Prop),Inv X pins σ H s→wi σ H R→
  wpAny (model X.prog X.w) X.A (eval iter X.env) (fun v s1=>wpAny (model X.prog X.w) X.A (pyIter v) (PIE X pins σ tg R) X.xe s1) X.xe s
theorem wx {M:Model} {A:Around} {E:Value→Shared→Prop} {s:Shared} {tg:Expr} {it:Addr} {u:Value} {o:Obj} {n:String} {vs:Array Value} {Q:Unit→Shared→Prop} (ho:s.heap.get? it=some o) (hc:o.cls=.type n) (hd:o.data=.fields vs)
  (hn:["enumerate","zip","dict_itemiterator","dict_reverseitemiterator","odict_iterator","itertools.zip_longest","itertools.pairwise"].contains n=false) (hQ:Q () s):wpAny M A (letOwnedTupleGo tg (.ref it) u) Q E s:=by
 unfold letOwnedTupleGo
 cases tg <;> first
  | exact wpAny_pure hQ
  | (cases u <;> first
    | exact wpAny_pure hQ
    | (refine wpAny_bind (wpAny_load ho ?_);rw[hc,hd];show wpAny M A (if (["enumerate","zip","dict_itemiterator","dict_reverseitemiterator","odict_iterator","itertools.zip_longest","itertools.pairwise"].contains n && vs[0]? == some (rawInt _))=true then _ else _) Q E s;rw[if_neg (by intro h;rw[hn,Bool.false_and] at h;cases h)];exact wpAny_pure hQ))
def Itl (K:PySem.W.Frag) (a:Addr):It:=
 ⟨fun i H=>∃ xs x,SqL K H a xs∧xs[i]?=some x,fun i H x H'=>H'=H∧∀ xs,SqL K H a xs→xs[i]?=some x,fun i H=>∃ xs,SqL K H a xs∧xs.length≤i⟩
def Itt (K:PySem.W.Frag) (a:Addr):It:=
 ⟨fun i H=>∃ xs x,SqT K H a xs∧xs[i]?=some x,fun i H x H'=>H'=H∧∀ xs,SqT K H a xs→xs[i]?=some x,fun i H=>∃ xs,SqT K H a xs∧xs.length≤i⟩
def Itr (lo:Int) (n:Nat):It:=⟨fun i _=>i < n,fun i H x H'=>H'=H∧x=.int (lo + i),fun i _=>n≤i⟩
theorem tO {P:Program} {w:World} {K:PySem.W.Frag} {tg:Expr} (a it:Addr):Turn P w K tg (Itl K a) [it] it (fun i h=>h.IsListIter it a i) where
 mem:=by simp
 obj:=fun i h st b hb=>by
  have e:b=it:=by simpa using hb
  subst e
  obtain⟨o,e,c,d⟩:=st
  exact⟨o,e,fun v z=>by rw[d] at z;cases z⟩
 keep:=fun i h h' st k=>st.at fun o e=>k it (by simp) o e
 item:=by
  intro X hP hw hK hc i pins s σ H E I hf st hg
  subst hP hw hK
  obtain⟨xs,x,hq,hx⟩:=hg
  obtain⟨its,rv,p,hz⟩:=I.list hq
  obtain⟨u,hu,ru⟩:=rv.get hx
  obtain⟨f0,f1,f2,f3,f4,f5⟩:=hf it (by simp)
  refine wpAny_pyNext_list_item st p.isList (x:=u) (by simpa using hu) fun h' st' sb=>?_
  have I1:Inv X pins σ H { s with heap:=h' }:=I.turned (t':=s.toks) (fun b o hb e=>(sb.2 b hb).trans e) f0 f1 f3 f4 f5
  obtain⟨o,e,c,d⟩:=id st'
  exact⟨u,rfl,wx (s:={ s with heap:=h' }) e c d (by decide) ⟨x,H,I1,ru,⟨rfl,fun ys hy=>by rw[I.v7 hy hq];exact hx⟩,st',fun b hb=>(hf b hb).1⟩⟩
 done:=by
  intro X hP hw hK hc i pins s σ H E I hf st hg
  subst hP hw hK
  obtain⟨xs,hq,hx⟩:=hg
  obtain⟨its,rv,p,hz⟩:=I.list hq
  obtain⟨f0,f1,f2,f3,f4,f5⟩:=hf it (by simp)
  have hl:=rv.length
  exact wpAny_pyNext_list_end (I.ok.hd hc) st p.isList (by simp;omega) fun h' eb=>⟨rfl,I.turned (t':=s.toks) (fun b o hb e=>eb b o hb e) f0 f1 f3 f4 f5⟩
 self:=fun _ _ _ _ _ st h=>wpAny_pyIter_listiter st h
theorem qz {P:Program} {w:World} {K:PySem.W.Frag} {tg:Expr} (a it:Addr):Turn P w K tg (Itt K a) [it] it (fun i h=>h.IsTupleIter it a i) where
 mem:=by simp
 obj:=fun i h st b hb=>by
  have e:b=it:=by simpa using hb
  subst e
  obtain⟨o,e,c,d⟩:=st
  exact⟨o,e,fun v z=>by rw[d] at z;cases z⟩
 keep:=fun i h h' st k=>st.at fun o e=>k it (by simp) o e
 item:=by
  intro X hP hw hK hc i pins s σ H E I hf st hg
  subst hP hw hK
  obtain⟨xs,x,hq,hx⟩:=hg
  obtain⟨its,rv,p,hz⟩:=I.tuple hq
  obtain⟨u,hu,ru⟩:=rv.get hx
  obtain⟨f0,f1,f2,f3,f4,f5⟩:=hf it (by simp)
  refine wpAny_pyNext_tuple_item st (show s.heap.IsTuple a its.toArray from p) (x:=u) (by simpa using hu) fun h' st' sb=>?_
  have I1:Inv X pins σ H { s with heap:=h' }:=I.turned (t':=s.toks) (fun b o hb e=>(sb.2 b hb).trans e) f0 f1 f3 f4 f5
  obtain⟨o,e,c,d⟩:=id st'
  exact⟨u,rfl,wx (s:={ s with heap:=h' }) e c d (by decide) ⟨x,H,I1,ru,⟨rfl,fun ys hy=>by rw[I.tP hy hq];exact hx⟩,st',fun b hb=>(hf b hb).1⟩⟩
 done:=by
  intro X hP hw hK hc i pins s σ H E I hf st hg
  subst hP hw hK
  obtain⟨xs,hq,hx⟩:=hg
  obtain⟨its,rv,p,hz⟩:=I.tuple hq
  obtain⟨f0,f1,f2,f3,f4,f5⟩:=hf it (by simp)
  have hl:=rv.length
  exact wpAny_pyNext_tuple_end (I.ok.hd hc) st (show s.heap.IsTuple a its.toArray from p) (by simp;omega) fun h' eb=>⟨rfl,I.turned (t':=s.toks) (fun b o hb e=>eb b o hb e) f0 f1 f3 f4 f5⟩
 self:=fun _ _ _ _ _ st h=>wpAny_pyIter_tupleiter st h
theorem qA {P:Program} {w:World} {K:PySem.W.Frag} {tg:Expr} (it:Addr) (lo:Int) (n:Nat):Turn P w K tg (Itr lo n) [it] it (fun i h=>IsRangeIter h it (lo + (i:Nat) * 1) ((n:Int) - (i:Nat)) 1) where
 mem:=by simp
 obj:=fun i h st b hb=>by
  have e:b=it:=by simpa using hb
  subst e
  exact⟨_,st,fun v z=>by
   have z':Data.fields _=Data.cell v:=z
   cases z'⟩
 keep:=fun i h h' st k=>k it (by simp) _ st
 item:=by
  intro X hP hw hK hc i pins s σ H E I hf st hg
  subst hP hw hK
  obtain⟨f0,f1,f2,f3,f4,f5⟩:=hf it (by simp)
  have W:=Walks.range (prog:=X.prog) (w:=X.w) (I.ok.hd hc) it lo 1 n
  refine W.item i s _ _ hg st fun v h' tk hv st' kk=>?_
  obtain⟨t,rfl⟩:=hv
  have I1:Inv X pins σ H { s with heap:=h',toks:=tk }:=I.turned (fun b o hb e=>kk b o (by simpa using hb) e) f0 f1 f3 f4 f5
  refine⟨_,rfl,wx (s:={ s with heap:=h',toks:=tk }) (n:="range_iterator") st' rfl rfl (by decide) ⟨.int (lo + i),H,I1,⟨t,?_⟩,⟨rfl,rfl⟩,st',fun b hb=>(hf b hb).1⟩⟩
  rw[Int.mul_one]
 done:=by
  intro X hP hw hK hc i pins s σ H E I hf st hg
  subst hP hw hK
  obtain⟨f0,f1,f2,f3,f4,f5⟩:=hf it (by simp)
  exact wpAny_pyNext_range_end (I.ok.hd hc) st (by have:n≤i:=hg;omega) fun h' eb=>⟨rfl,I.turned (t':=s.toks) (fun b o hb e=>eb b o hb e) f0 f1 f3 f4 f5⟩
 self:=fun _ _ _ _ _ st h=>wpAny_pyIter_rangeiter st h
end L2
namespace L2
open PySem PySem.Spec PyProof.Rows
section
variable {X:Cx} {tg:Expr}
def sW (K:PySem.W.Frag) (tl:TE):TI:=fun σ H R=>tl σ H fun x H1=>∃ a,x=.ref a∧(∃ xs,SqL K H1 a xs)∧R (Itl K a) H1
def DO (K:PySem.W.Frag) (tl:TE):TI:=fun σ H R=>tl σ H fun x H1=>∃ a,x=.ref a∧(∃ xs,SqT K H1 a xs)∧R (Itt K a) H1
theorem oa {l:Expr} {tl:TE} (hl:PE X l tl):PI X tg l (sW X.K tl):=by
 intro pins s σ H R I h
 refine thn (hl pins s σ H _ I h) fun v s1 ⟨x,H1,I1,r1,q1⟩=>?_
 obtain⟨a,e,⟨xs,hq⟩,q⟩:=q1
 subst e
 cases r1
 obtain⟨its,rv,p,hz⟩:=I1.list hq
 refine wpAny_pyIter_list p.isList ?_
 refine⟨s1.heap.objs.size,[s1.heap.objs.size],_,_,H1,rfl,I1.kept (t':=s1.toks) fun b o e=>Heap.get?_push_of_some _ e,tO a _,⟨_,Heap.get?_push_size _ rfl,rfl,rfl⟩,fun b hb=>?_,q⟩
 have e:b=s1.heap.objs.size:=by simpa using hb
 subst e
 exact I1.p6 (Nat.le_refl _) (I1.hok.fresh (Nat.le_refl _))
theorem A4 {l:Expr} {tl:TE} (hl:PE X l tl):PI X tg l (DO X.K tl):=by
 intro pins s σ H R I h
 refine thn (hl pins s σ H _ I h) fun v s1 ⟨x,H1,I1,r1,q1⟩=>?_
 obtain⟨a,e,⟨xs,hq⟩,q⟩:=q1
 subst e
 cases r1
 obtain⟨its,rv,p,hz⟩:=I1.tuple hq
 refine wpAny_pyIter_tuple (show s1.heap.IsTuple a its.toArray from p) ?_
 refine⟨s1.heap.objs.size,[s1.heap.objs.size],_,_,H1,rfl,I1.kept (t':=s1.toks) fun b o e=>Heap.get?_push_of_some _ e,qz a _,⟨_,Heap.get?_push_size _ rfl,rfl,rfl⟩,fun b hb=>?_,q⟩
 have e:b=s1.heap.objs.size:=by simpa using hb
 subst e
 exact I1.p6 (Nat.le_refl _) (I1.hok.fresh (Nat.le_refl _))
theorem vf {pins:List (Addr×Obj)} {σ:St} {H:Hp} {s:Shared} {R:It→Hp→Prop} {E:Value→Shared→Prop} {lo hi:Int} {t u v:Tok} {tk:Nat} (I:Inv X pins σ H s) (h1:-(2 ^ 62)≤lo) (h2:lo < 2 ^ 62) (h3:-(2 ^ 62)≤hi) (h4:hi < 2 ^ 62)
  (q:R (Itr lo (hi - lo).toNat) H):wpAny (model X.prog X.w) X.A (pyIter (.ref s.heap.objs.size)) (PIE X pins σ tg R) E { s with heap:=s.heap.push { cls:=.type "range",data:=.fields #[.int lo t,.int hi u,.int 1 v] },toks:=tk }:=by
 refine wpAny_pyIter_range (IsRange.new ..) (small_one h1 h2 h3 h4) ?_
 have I1:Inv X pins σ H { s with heap:=s.heap.push { cls:=.type "range",data:=.fields #[.int lo t,.int hi u,.int 1 v] },toks:=tk }:=I.kept fun b o e=>Heap.get?_push_of_some _ e
 refine⟨(s.heap.push { cls:=.type "range",data:=.fields #[.int lo t,.int hi u,.int 1 v] }).objs.size,[(s.heap.push { cls:=.type "range",data:=.fields #[.int lo t,.int hi u,.int 1 v] }).objs.size],_,_,H,rfl,
  I1.kept (t':=tk) fun b o e=>Heap.get?_push_of_some _ e,qA _ lo (hi - lo).toNat,?_,fun b hb=>?_,q⟩
 ·have e1:lo + ((0:Nat):Int) * 1=lo:=by simp
  have e2:(((hi - lo).toNat:Nat):Int) - ((0:Nat):Int)=Builtin.Range.rangeSize lo hi 1:=by rw[rangeSize_one];split <;> omega
  show IsRangeIter _ _ (lo + ((0:Nat):Int) * 1) ((((hi - lo).toNat:Nat):Int) - ((0:Nat):Int)) 1
  rw[e1,e2]
  exact Heap.get?_push_size _ rfl
 ·have e:b=(s.heap.push { cls:=.type "range",data:=.fields #[.int lo t,.int hi u,.int 1 v] }).objs.size:=by simpa using hb
  subst e
  exact I1.p6 (Nat.le_refl _) (I1.hok.fresh (Nat.le_refl _))
def zN (ta:TA):TI:=fun σ H R=>ta σ H fun vs H1=>∃ j:Int,vs=[.int j]∧-(2 ^ 62)≤j∧j < 2 ^ 62∧R (Itr 0 j.toNat) H1
def G3 (ta:TA):TI:=fun σ H R=>ta σ H fun vs H1=>∃ i j:Int,vs=[.int i,.int j]∧(-(2 ^ 62)≤i∧i < 2 ^ 62∧-(2 ^ 62)≤j∧j < 2 ^ 62)∧R (Itr i (j - i).toNat) H1
theorem t7 {a:Expr} {ta:TA} {p pos:Pos} (hg:Gl X "range") (hm:X.mg "range"=none) (ha:PA X [a] ta) (hs:starEach [a] X.env=[(false,eval a X.env)]:=by rfl):PI X tg (.Call (.Name "range" p) [a] [] pos) (zN ta):=by
 intro pins s σ H R I h
 refine Call_ (md I hg hm boot_range (PyProof.Rows.callWith_type1 (thn (ha pos pins s σ H _ I h) fun us s1 ⟨vs,H1,I1,r1,q1⟩=>?_) hs rfl))
 obtain⟨j,e,q1,q2,q⟩:=q1
 subst e
 cases r1 with
 | cons r rr=>
  cases rr
  obtain⟨t,rfl⟩:=r
  exact call_range_1 (vf I1 (by omega) (by omega) q1 q2 (by simpa using q))
def xy (wi:TI) (g:TG) (tb:TS):TS:=fun D σ H=>wi σ H fun J H1=>∃ W:Nat→Nat→St→Hp→Prop,(∃ m,W 0 m σ H1)∧∀ i m σ H,W i m σ H→
 (J.stop i H∧D.nx σ H)∨(J.go i H∧∃ N:St→Hp→Prop,(∀ σ' H',N σ' H'→∃ m',m' < m∧W (i + 1) m' σ' H')∧∀ x H',J.yld i H x H'→g x σ H' fun σ2 H2=>tb { D with nx:=N,ct:=N,bk:=D.nx } σ2 H2)
def lS (fp:List Addr) (h:Heap):List (Addr×Obj):=fp.filterMap fun b=>(h.get? b).map fun o=>(b,o)
theorem el {fp:List Addr} {h:Heap} {b:Addr} {o:Obj} (hb:b∈fp) (e:h.get? b=some o):(b,o)∈lS fp h:=List.mem_filterMap.mpr ⟨b,hb,by rw[e];rfl⟩
theorem nv {fp:List Addr} {h:Heap} {p:Addr×Obj} (hp:p∈lS fp h):p.1∈fp∧h.get? p.1=some p.2:=by
 obtain⟨b,hb,e⟩:=List.mem_filterMap.mp hp
 cases q:h.get? b with
 | none=>rw[q] at e;cases e
 | some o=>
  rw[q] at e
  have e':(b,o)=p:=Option.some.inj e
  subst e'
  exact⟨hb,q⟩
theorem Inv.pinned {pins:List (Addr×Obj)} {σ:St} {H:Hp} {s:Shared} {fp:List Addr} (I:Inv X pins σ H s) (hf:∀ b∈fp,gw X pins H b) (ho:∀ b∈fp,∃ o,s.heap.get? b=some o∧∀ v,o.data≠.cell v):Inv X (pins++lS fp s.heap) σ H s:=
 I.gG fun p hp=>(List.mem_append.mp hp).elim (fun z=>I.pin p (List.mem_append_right _ z)) fun z=>by
  obtain⟨hb,e⟩:=nv z
  obtain⟨f0,f1,f2,_⟩:=hf p.1 hb
  obtain⟨o,e',d⟩:=ho p.1 hb
  rw[e] at e';cases e'
  exact⟨e,f0,f1,f2,d⟩
theorem Inv.lE {pins pl:List (Addr×Obj)} {σ:St} {H:Hp} {s:Shared} (I:Inv X (pins++pl) σ H s):Inv X pins σ H s:=I.gG fun p hp=>I.pin p (List.mem_append_right _ (List.mem_append_left _ hp))
theorem qM {iter:Expr} {body:List Stmt} {wi:TI} {g:TG} {tb:TS} {pos:Pos} (hp:PassesOwn (model X.prog X.w) X.A X.env X.xe) (hc:X.calm=true) (hi:PI X tg iter wi) (hg:PG X tg g) (hb:PSs X body tb)
  (hs:∀ x,foldedSetIterable iter X.env x=pure x:=by intro _;rfl):PS X (.For tg iter body [] pos) (xy wi g tb):=by
 intro pins s σ H D I h
 refine wpAny_For (thn (hi pins s σ H _ I h) fun v s1 h1=>thn h1 fun itv s2 h2=>?_) hs
 obtain⟨it,fp,tn,J,H2,e,I2,T,st2,f2,W,⟨m0,w0⟩,turn⟩:=h2
 subst e
 have stat:∀ {H':Hp},(∀ b∈fp,H' b=none)→∀ b∈fp,gw X pins H' b:=fun hn b hb=>⟨hn b hb,(f2 b hb).2⟩
 refine codeAny_forLoop_any (fun n s'=>∃ i σ' H',Inv X pins σ' H' s'∧tn i s'.heap∧(∀ b∈fp,H' b=none)∧W i n σ' H') ?_ m0 ⟨0,σ,H2,I2,st2,fun b hb=>(f2 b hb).1,w0⟩
 rintro n s3 ⟨i,σ3,H3,I3,st3,fr3,w3⟩
 rcases turn i n σ3 H3 w3 with ⟨stop,qn⟩ | ⟨go,N,hN,step⟩
 ·refine wpAny_passesOwn hp (thn (T.done X rfl rfl rfl hc i pins s3 σ3 H3 X.xe I3 (stat fr3) st3 stop) fun r s4 ⟨hr,I4⟩=>?_)
  subst hr
  exact wpAny_execs_nil ⟨σ3,H3,I4,qn⟩
 ·refine wpAny_passesOwn hp (thn (T.item X rfl rfl rfl hc i pins s3 σ3 H3 X.xe I3 (stat fr3) st3 go) fun r s4 ⟨u,hr,h4⟩=>?_)
  subst hr
  refine wpAny_passesOwn hp (thn h4 fun _ s5 ⟨x,H5,I5,r5,y5,st5,fr5⟩=>?_)
  have I5':=I5.pinned (stat fr5) (T.obj _ _ st5)
  refine wpAny_passesOwn hp (thn (hg _ s5 σ3 H5 x u _ I5' r5 (step x H5 y5)) fun _ s6 ⟨σ6,H6,I6,q6⟩=>?_)
  refine wpAny_passesOwn hp (thn (hb _ s6 σ6 H6 _ I6 q6) fun f s7 q7=>?_)
  have again:∀ {σ7:St} {H7:Hp},Inv X (pins++lS fp s5.heap) σ7 H7 s7→N σ7 H7→∃ m,m < n∧∃ i σ' H',Inv X pins σ' H' s7∧tn i s7.heap∧(∀ b∈fp,H' b=none)∧W i m σ' H':=fun {σ7 H7} I7 n7=>by
   obtain⟨m',hm,w7⟩:=hN σ7 H7 n7
   refine⟨m',hm,i + 1,σ7,H7,I7.lE,T.keep _ _ _ st5 fun b hb o e=>(I7.pin (b,o) (List.mem_append_right _ (List.mem_append_right _ (el hb e)))).1,fun b hb=>?_,w7⟩
   obtain⟨o,e,d⟩:=T.obj _ _ st5 b hb
   exact(I7.pin (b,o) (List.mem_append_right _ (List.mem_append_right _ (el hb e)))).2.1
  cases f with
  | next=>obtain⟨σ7,H7,I7,n7⟩:=q7;exact again I7 n7
  | cont=>obtain⟨σ7,H7,I7,n7⟩:=q7;exact again I7 n7
  | brk=>obtain⟨σ7,H7,I7,q7⟩:=q7;exact⟨σ7,H7,I7.lE,q7⟩
  | ret v=>obtain⟨x7,σ7,H7,I7,r7,q7⟩:=q7;exact⟨x7,σ7,H7,I7.lE,r7,q7⟩
end
end L2
namespace L2
open PySem PySem.Spec PyProof.Rows
abbrev R2:=V→V→Hp→VK→Prop
def OpR (X:Cx) (f:Value→Value→Sem Value) (r:R2):Prop:=
 ∀ (pins:List (Addr×Obj)) (s:Shared) (σ:St) (H:Hp) (x y:V) (v u:Value) (Q:VK),Inv X pins σ H s→RelV x v→RelV y u→r x y H Q→
  wpAny (model X.prog X.w) X.A (f v u) (EP X pins σ Q) X.xe s
def UnR (X:Cx) (f:Value→Sem Value) (r:V→Hp→VK→Prop):Prop:=
 ∀ (pins:List (Addr×Obj)) (s:Shared) (σ:St) (H:Hp) (x:V) (v:Value) (Q:VK),Inv X pins σ H s→RelV x v→r x H Q→
  wpAny (model X.prog X.w) X.A (f v) (EP X pins σ Q) X.xe s
def cy (X:Cx) (f:Value) (r:List V→Hp→VK→Prop):Prop:=
 ∀ (pins:List (Addr×Obj)) (s:Shared) (σ:St) (H:Hp) (xs:List V) (us:List Value) (Q:VK),Inv X pins σ H s→Vals xs us→r xs H Q→
  wpAny (model X.prog X.w) X.A (call f us) (EP X pins σ Q) X.xe s
def HL (X:Cx) (r:V→Hp→(Bool→Hp→Prop)→Prop):Prop:=
 ∀ (pins:List (Addr×Obj)) (s:Shared) (σ:St) (H:Hp) (x:V) (v:Value) (Q:Bool→Hp→Prop),Inv X pins σ H s→RelV x v→r x H Q→
  wpAny (model X.prog X.w) X.A (truthy v) (TP X pins σ Q) X.xe s
def tOp (r:R2) (ta tb:TE):TE:=fun σ H Q=>ta σ H fun x H1=>tb σ H1 fun y H2=>r x y H2 Q
def tUn (r:V→Hp→VK→Prop) (ta:TE):TE:=fun σ H Q=>ta σ H fun x H1=>r x H1 Q
def rI (C:Int→Int→Prop) (g:Int→Int→V):R2:=fun x y H Q=>∃ i j,x=.int i∧y=.int j∧C i j∧Q (g i j) H
def rI0 (g:Int→Int→V):R2:=fun x y H Q=>∃ i j,x=.int i∧y=.int j∧Q (g i j) H
def rU (g:Int→V):V→Hp→VK→Prop:=fun x H Q=>∃ i,x=.int i∧Q (g i) H
section
variable {X:Cx} {a b c:Expr} {ta tb tc:TE} {pos:Pos}
theorem Cr (ha:PE X a ta) (hb:PE X b tb) {pins:List (Addr×Obj)} {s:Shared} {σ:St} {H:Hp} {R:V→V→Hp→Prop} (I:Inv X pins σ H s)
  (h:ta σ H fun x H1=>tb σ H1 fun y H2=>R x y H2) {Q:Value→Shared→Prop} {f:Value→Value→Sem Value}
  (hf:∀ v u s2 x y H2,Inv X pins σ H2 s2→RelV x v→RelV y u→R x y H2→wpAny (model X.prog X.w) X.A (f v u) Q X.xe s2) :
  wpAny (model X.prog X.w) X.A (eval a X.env) (fun v s₁=>wpAny (model X.prog X.w) X.A (eval b X.env) (fun u s₂=>wpAny (model X.prog X.w) X.A (f v u) Q X.xe s₂) X.xe s₁) X.xe s:=by
 refine thn (ha pins s σ H _ I h) fun v s1 ⟨x,H1,I1,r1,q1⟩=>?_
 refine thn (hb pins s1 σ H1 _ I1 q1) fun u s2 ⟨y,H2,I2,r2,q2⟩=>?_
 exact hf v u s2 x y H2 I2 r1 r2 q2
theorem lU {op:Operator} {r:R2} (ho:OpR X (binaryOp op) r) (ha:PE X a ta) (hb:PE X b tb):PE X (.BinOp a op b pos) (tOp r ta tb):=by
 intro pins s σ H Q I h
 exact wpAny_BinOp (Cr ha hb I h fun v u s2 x y H2 I2 rx ry q=>ho pins s2 σ H2 x y v u Q I2 rx ry q)
theorem Dk {op:UnaryOp} {r:V→Hp→VK→Prop} (ho:UnR X (unaryOp op) r) (ha:PE X a ta):PE X (.UnaryOp op a pos) (tUn r ta):=by
 intro pins s σ H Q I h
 exact UnaryOp_ (thn (ha pins s σ H _ I h) fun v s1 ⟨x,H1,I1,r1,q1⟩=>ho pins s1 σ H1 x v Q I1 r1 q1)
theorem opI {f:Value→Value→Sem Value} {C:Int→Int→Prop} {g:Int→Int→Int}
  (rule:∀ (i j:Int) (t u:Tok) (s:Shared) (Q:Value→Shared→Prop) (E:Value→Shared→Prop),C i j→Q (.int (g i j) s.toks) { s with toks:=s.toks + 1 }→wpAny (model X.prog X.w) X.A (f (.int i t) (.int j u)) Q E s) :
  OpR X f (rI C fun i j=>.int (g i j)):=by
 intro pins s σ H x y v u Q I rx ry h
 obtain⟨i,j,rfl,rfl,hc,q⟩:=h
 obtain⟨t,rfl⟩:=rx
 obtain⟨t',rfl⟩:=ry
 exact rule i j t t' s _ _ hc ⟨.int (g i j),H,I.tok _,⟨_,rfl⟩,q⟩
theorem qT {f:Value→Value→Sem Value} {g:Int→Int→Int}
  (rule:∀ (i j:Int) (t u:Tok) (s:Shared) (Q:Value→Shared→Prop) (E:Value→Shared→Prop),Q (.int (g i j) s.toks) { s with toks:=s.toks + 1 }→wpAny (model X.prog X.w) X.A (f (.int i t) (.int j u)) Q E s) :
  OpR X f (rI0 fun i j=>.int (g i j)):=by
 intro pins s σ H x y v u Q I rx ry h
 obtain⟨i,j,rfl,rfl,q⟩:=h
 obtain⟨t,rfl⟩:=rx
 obtain⟨t',rfl⟩:=ry
 exact rule i j t t' s _ _ ⟨.int (g i j),H,I.tok _,⟨_,rfl⟩,q⟩
theorem Bn {f:Value→Value→Sem Value} {g:Int→Int→Bool}
  (rule:∀ (i j:Int) (t u:Tok) (s:Shared) (Q:Value→Shared→Prop) (E:Value→Shared→Prop),Q (.bool (g i j)) s→wpAny (model X.prog X.w) X.A (f (.int i t) (.int j u)) Q E s) :
  OpR X f (rI0 fun i j=>.bl (g i j)):=by
 intro pins s σ H x y v u Q I rx ry h
 obtain⟨i,j,rfl,rfl,q⟩:=h
 obtain⟨t,rfl⟩:=rx
 obtain⟨t',rfl⟩:=ry
 exact rule i j t t' s _ _ ⟨.bl (g i j),H,I,rfl,q⟩
def uC (i j:Int):Prop:=0 < j∧j < 1073741824
def G9 (i j:Int):Prop:=j≠0∧j.natAbs < 1073741824
def xr (i j:Int):Prop:=0≤j∧j≤1000000∧i.natAbs < 2 ^ 64
def xu (i j:Int):Prop:=(-(2 ^ 64) < i∧i < 2 ^ 64)∨(-(2 ^ 64) < j∧j < 2 ^ 64)
theorem xu.ok {i j:Int} (h:xu i j):IntMulOk i j:=by
 rcases h with ⟨h1,h2⟩ | ⟨h1,h2⟩
 ·exact .of_left (intBits_le_64 h1 h2)
 ·exact .of_right (intBits_le_64 h1 h2)
theorem Bm:OpR X (binaryOp .Add) (rI0 fun i j=>.int (i + j)):=qT fun _ _ _ _ _ _ _ q=>add_int q
theorem Be:OpR X (binaryOp .Sub) (rI0 fun i j=>.int (i - j)):=qT fun _ _ _ _ _ _ _ q=>sub_int q
theorem Bg:OpR X (binaryOp .Mult) (rI xu fun i j=>.int (i * j)):=opI fun _ _ _ _ _ _ _ hc q=>mul_int q hc.ok
theorem yk:OpR X (binaryOp .FloorDiv) (rI uC fun i j=>.int (i / j)):=opI fun i j _ _ _ _ _ hc q=>by
 have h1:(0:Int) < j:=hc.1
 have h2:j < 1073741824:=hc.2
 exact floordiv_int (by omega) (by rw[Int.fdiv_eq_ediv_of_nonneg i (by omega)];exact q) (.inl (PyProof.noPylong_small (by omega)))
theorem Bh:OpR X (binaryOp .Mod) (rI (fun _ j=>0 < j) fun i j=>.int (i % j)):=opI fun i j _ _ _ _ _ hc q=>by
 have h1:(0:Int) < j:=hc
 exact mod_int' (by omega) (by rw[Int.fmod_eq_emod_of_nonneg i (by omega)];exact q)
theorem vJ:OpR X (binaryOp .Pow) (rI xr fun i j=>.int (i ^ j.toNat)):=opI fun _ _ _ _ _ _ _ hc q=>pow_int_small hc.1 hc.2.1 hc.2.2 q
theorem unI {f:Value→Sem Value} {g:Int→Int}
  (rule:∀ (i:Int) (t:Tok) (s:Shared) (Q:Value→Shared→Prop) (E:Value→Shared→Prop),Q (.int (g i) s.toks) { s with toks:=s.toks + 1 }→wpAny (model X.prog X.w) X.A (f (.int i t)) Q E s) :
  UnR X f (rU fun i=>.int (g i)):=by
 intro pins s σ H x v Q I rx h
 obtain⟨i,rfl,q⟩:=h
 obtain⟨t,rfl⟩:=rx
 exact rule i t s _ _ ⟨.int (g i),H,I.tok _,⟨_,rfl⟩,q⟩
theorem Ar:UnR X (unaryOp .USub) (rU fun i=>.int (-i)):=unI fun _ _ _ _ _ q=>neg_int q
end
def CY:V→V→Bool
 | .non,.non=>true | .non,.int _=>true | .int _,.non=>true | .non,.bl _=>true | .bl _,.non=>true | .non,.str _=>true | .str _,.non=>true
 | .int _,.int _=>true | .bl _,.bl _=>true | .str _,.str _=>true | .byt _,.byt _=>true
 | .int _,.str _=>true | .str _,.int _=>true | .bl _,.str _=>true | .str _,.bl _=>true
 | _,_=>false
def rEq:R2:=fun x y H Q=>CY x y=true∧Q (.bl (decide (x=y))) H
def rNe:R2:=fun x y H Q=>CY x y=true∧Q (.bl (!decide (x=y))) H
section
variable {X:Cx} {a b c:Expr} {ta tb tc:TE} {pos:Pos}
theorem oF {pins:List (Addr×Obj)} {σ:St} {H:Hp} {s:Shared} {Q:VK} {k k':Bool} (I:Inv X pins σ H s) (q:Q (.bl k) H) (e:k=k'):EP X pins σ Q (.bool k') s:=by
 subst e
 exact⟨.bl k,H,I,rfl,q⟩
theorem Ds:OpR X (compareOp .Lt) (rI0 fun i j=>.bl (decide (i < j))):=Bn fun _ _ _ _ _ _ _ q=>lt_int q
theorem Du:OpR X (compareOp .LtE) (rI0 fun i j=>.bl (decide (i≤j))):=Bn fun _ _ _ _ _ _ _ q=>le_int q
theorem Dv:OpR X (compareOp .Gt) (rI0 fun i j=>.bl (decide (j < i))):=Bn fun _ _ _ _ _ _ _ q=>gt_int q
def isObj:HO→Bool
 | .lst _=>true
 | .ins _ _ _=>true
 | _=>false
theorem OpR.or {f:Value→Value→Sem Value} {r r':R2} (h:OpR X f r) (h':OpR X f r'):OpR X f (fun x y H Q=>r x y H Q∨r' x y H Q):=by
 intro pins s σ H x y v u Q I rx ry q
 rcases q with q | q
 ·exact h pins s σ H x y v u Q I rx ry q
 ·exact h' pins s σ H x y v u Q I rx ry q
theorem aW (b:Expr) {op:CmpOp} (h:op≠.In:=by decide) (h2:op≠.NotIn:=by decide):behindInMarks op b=false:=by
 have e1:(op == CmpOp.In)=false:=by cases op <;> first | rfl | exact absurd rfl h
 have e2:(op == CmpOp.NotIn)=false:=by cases op <;> first | rfl | exact absurd rfl h2
 cases b <;> simp [behindInMarks,e1,e2]
theorem x_ {op:CmpOp} {r:R2} (ho:OpR X (compareOp op) r) (ha:PE X a ta) (hb:PE X b tb) (hm:behindInMarks op b=false):PE X (.Compare a [op] [b] pos) (tOp r ta tb):=by
 intro pins s σ H Q I h
 exact wpAny_Compare1 (Cr ha hb I h fun v u s2 x y H2 I2 rx ry q=>ho pins s2 σ H2 x y v u Q I2 rx ry q) hm
def sf (t:TE):TT:=fun σ H Q=>t σ H fun x H'=>∃ k,x=.bl k∧Q k H'
theorem xX {op:CmpOp} {r:R2} (ho:OpR X (compareOp op) r) (ha:PE X a ta) (hb:PE X b tb) (hm:behindInMarks op b=false):PT X (.Compare a [op] [b] pos) (sf (tOp r ta tb)):=by
 intro pins s σ H Q I h
 refine wpAny_isTrue_Compare1 (thn (ha pins s σ H _ I h) fun v s1 ⟨x,H1,I1,r1,q1⟩=>thn (hb pins s1 σ H1 _ I1 q1) fun u s2 ⟨y,H2,I2,r2,q2⟩=>
  thn (ho pins s2 σ H2 x y v u _ I2 r1 r2 q2) fun c s3 ⟨z,H3,I3,r3,k,e,q3⟩=>?_) hm
 subst e
 cases r3
 exact wpAny_truthy_bool ⟨H3,I3,q3⟩
def lG (r r':R2) (ta tb tc:TE):TE:=fun σ H Q=>ta σ H fun x H1=>tb σ H1 fun y H2=>r x y H2 fun z H3=>∃ k,z=.bl k∧
 (if k=true then tc σ H3 fun w' H4=>r' y w' H4 Q else Q (.bl false) H3)
theorem vA {op op':CmpOp} {r r':R2} (ho:OpR X (compareOp op) r) (ho':OpR X (compareOp op') r') (ha:PE X a ta) (hb:PE X b tb) (hc:PE X c tc)
  (hm:lastMarks [op,op'] [b,c]=false:=by with_unfolding_all rfl):PE X (.Compare a [op,op'] [b,c] pos) (lG r r' ta tb tc):=by
 intro pins s σ H Q I h
 refine Compare_chain (thn (ha pins s σ H _ I h) fun v s1 ⟨x,H1,I1,r1,q1⟩=>chain_link (thn (hb pins s1 σ H1 _ I1 q1) fun u s2 ⟨y,H2,I2,r2,q2⟩=>
  thn (ho pins s2 σ H2 x y v u _ I2 r1 r2 q2) fun d s3 ⟨z,H3,I3,r3,k,e,q3⟩=>?_)) hm
 subst e
 cases r3
 refine wpAny_truthy_bool ?_
 cases k with
 | false=>exact ite_ff ⟨.bl false,H3,I3,rfl,q3⟩
 | true=>exact ite_tt (chain_last (thn (hc pins s3 σ H3 _ I3 q3) fun w' s4 ⟨z',H4,I4,r4,q4⟩=>ho' pins s4 σ H4 y z' u w' Q I4 r2 r4 q4))
theorem vm {op op':CmpOp} {r r':R2} (ho:OpR X (compareOp op) r) (ho':OpR X (compareOp op') r') (ha:PE X a ta) (hb:PE X b tb) (hc:PE X c tc)
  (hm:lastMarks [op,op'] [b,c]=false:=by with_unfolding_all rfl):PT X (.Compare a [op,op'] [b,c] pos) (sf (lG r r' ta tb tc)):=by
 intro pins s σ H Q I h
 refine isTrue_chain (thn (ha pins s σ H _ I h) fun v s1 ⟨x,H1,I1,r1,q1⟩=>test_link (thn (hb pins s1 σ H1 _ I1 q1) fun u s2 ⟨y,H2,I2,r2,q2⟩=>
  thn (ho pins s2 σ H2 x y v u _ I2 r1 r2 q2) fun d s3 ⟨z,H3,I3,r3,k,e,q3⟩=>?_)) hm
 subst e
 cases r3
 refine wpAny_truthy_bool ?_
 cases k with
 | false=>
  obtain⟨k',e',q'⟩:=q3
  cases e'
  exact ite_ff ⟨H3,I3,q'⟩
 | true=>
  refine ite_tt (test_last (thn (hc pins s3 σ H3 _ I3 q3) fun w' s4 ⟨z',H4,I4,r4,q4⟩=>thn (ho' pins s4 σ H4 y z' u w' _ I4 r2 r4 q4) fun d' s5 ⟨z2,H5,I5,r5,k2,e2,q5⟩=>?_))
  subst e2
  cases r5
  exact wpAny_truthy_bool ⟨H5,I5,q5⟩
def HK (K:PySem.W.Frag) (x:V) (H:Hp) (k:Bool):Prop:=
 match x with
 | .non=>k=false
 | .bl b=>k=b
 | .int i=>k=(i != 0)
 | .str y=>y.length≤sizeLine∧k=((y.length:Int) != 0)
 | .byt y=>y.size≤sizeLine∧k=((y.size:Int) != 0)
 | .ref p=>(∃ xs,SqL K H p xs∧k=!xs.isEmpty)∨(∃ xs,SqT K H p xs∧k=!xs.isEmpty)∨∃ kvs,H p=some (.dK kvs)∧k=!kvs.isEmpty
 | _=>False
theorem jl:(sizeLine:Nat) < 2 ^ 63:=by rw[sizeLine_eq];decide
theorem qS:OpR X (binaryOp .Add) (fun x y H Q=>∃ i j,x=.str i∧y=.str j∧i.length + j.length≤sizeLine∧Q (.str (i++j)) H):=by
 intro pins s σ H x y v u Q I rx ry h
 obtain⟨i,j,rfl,rfl,hz,q⟩:=h
 obtain⟨t,rfl⟩:=rx
 obtain⟨t',rfl⟩:=ry
 exact add_str (fun t' tk=>⟨.str (i++j),H,I.tok _,⟨_,rfl⟩,q⟩) hz
def EE (b:Expr):Prop:=∀ o i,subscripted b false o i=operate [o,i] (getItem o i)
theorem vals1 {x:V} {us:List Value} (r:Vals [x] us):∃ u,us=[u]∧RelV x u:=by
 cases r with
 | cons r1 r2=>cases r2;exact⟨_,rfl,r1⟩
theorem vals2 {x y:V} {us:List Value} (r:Vals [x,y] us):∃ u w',us=[u,w']∧RelV x u∧RelV y w':=by
 cases r with
 | cons r1 r2=>
  cases r2 with
  | cons r3 r4=>cases r4;exact⟨_,_,rfl,r1,r3⟩
theorem uq (hc:X.calm=true):cy X (.builtin "max") (fun xs H Q=>∃ i j,xs=[.int i,.int j]∧Q (.int (if j > i then j else i)) H):=by
 intro pins s σ H xs us Q I r h
 obtain⟨i,j,rfl,q⟩:=h
 obtain⟨u,w',rfl,⟨t,rfl⟩,⟨t',rfl⟩⟩:=vals2 r
 refine max_two_ints (I.ok.hd hc) fun h' tk k=>⟨_,H,I.kept k,?_,q⟩
 by_cases hj:j > i
 ·rw[if_pos hj,if_pos hj];exact⟨_,rfl⟩
 ·rw[if_neg hj,if_neg hj];exact⟨_,rfl⟩
theorem uo (hc:X.calm=true):cy X (.builtin "min") (fun xs H Q=>∃ i j,xs=[.int i,.int j]∧Q (.int (if j < i then j else i)) H):=by
 intro pins s σ H xs us Q I r h
 obtain⟨i,j,rfl,q⟩:=h
 obtain⟨u,w',rfl,⟨t,rfl⟩,⟨t',rfl⟩⟩:=vals2 r
 refine min_two_ints (I.ok.hd hc) fun h' tk k=>⟨_,H,I.kept k,?_,q⟩
 by_cases hj:j < i
 ·rw[if_pos hj,if_pos hj];exact⟨_,rfl⟩
 ·rw[if_neg hj,if_neg hj];exact⟨_,rfl⟩
def HS (K:PySem.W.Frag) (x:V) (H:Hp) (n:Nat):Prop:=
 match x with
 | .str y=>y.length≤sizeLine∧n=y.length
 | .byt y=>y.size≤sizeLine∧n=y.size
 | .ref p=>(∃ xs,SqL K H p xs∧n=xs.length)∨∃ xs,SqT K H p xs∧n=xs.length
 | _=>False
theorem qf:cy X (.builtin "divmod") (fun xs H Q=>∃ i j,xs=[.int i,.int j]∧uC i j∧∀ p,H p=none→Q (.ref p) (upd H p (.tup [.int (i / j),.int (i % j)]))):=by
 intro pins s σ H xs us Q I r h
 obtain⟨i,j,rfl,⟨h1,h2⟩,q⟩:=h
 obtain⟨u,w',rfl,⟨t,rfl⟩,⟨t',rfl⟩⟩:=vals2 r
 refine divmod_int (by omega) ?_ (.inl (PyProof.noPylong_small (by omega)))
 rw[Int.fdiv_eq_ediv_of_nonneg i (by omega),Int.fmod_eq_emod_of_nonneg i (by omega)]
 have hn:H s.heap.objs.size=none:=I.hok.fresh (Nat.le_refl _)
 refine⟨.ref s.heap.objs.size,_,?_,rfl,q _ hn⟩
 refine I.laid (fun b o e=>Heap.get?_push_of_some _ e) (Nat.le_refl _) ⟨by simp only[List.length_cons,List.length_nil];rw[sizeLine_eq];decide,[.int (i / j) s.toks,.int (i % j) (s.toks + 1)],.cons ⟨_,rfl⟩ (.cons ⟨_,rfl⟩ .nil),?_⟩
 exact⟨_,Heap.get?_push_size s.heap rfl,rfl,0,rfl⟩
end
end L2
namespace L2
open PySem PySem.Spec PyProof.Rows
structure rZ (h:Heap) (x dx C:Addr) (mA:Str→Option Value):Prop where
 obj:h.get? x=some (PySem.W.instObj C dx)
 ns:h.Ns1 dx mA
 ne:dx≠x
theorem ue {h:Heap} {dx:Addr} {mA:Str→Option Value} (n:h.Ns1 dx mA):∃ od,h.get? dx=some od∧∀ name,PySem.W.lookIn name od=some (mA name):=by
 obtain⟨o,es,ep,ho,hd,hk,_,hm⟩:=n
 refine⟨o,ho,fun name=>?_⟩
 have e:=hm name
 unfold nsFind findBy at e
 rw[← Array.find?_toList] at e
 unfold PySem.W.lookIn
 rw[hd]
 dsimp only
 split
 ·rename_i y q
  rw[q] at e
  exact congrArg some e
 ·rename_i q
  rw[q] at e
  have a:es.toList.any (·.refKey)=false:=by
   rw[List.any_eq_false]
   intro y hy
   obtain⟨z,t,hkey⟩:=hk y (Array.mem_toList_iff.mp hy)
   simp [DictEntry.refKey,hkey]
  have a':¬ es.toList.any (·.refKey)=true:=by rw[a];exact Bool.false_ne_true
  rw[if_neg a']
  exact congrArg some e
theorem rZ.look {h:Heap} {x dx C:Addr} {mA:Str→Option Value} (I:rZ h x dx C mA):∃ od,PySem.W.InstAt h x (PySem.W.instObj C dx) C (some od)∧∀ name,PySem.W.lookIn name od=some (mA name):=
 let ⟨od,ho,hl⟩:=ue I.ns
 ⟨od,⟨I.obj,rfl,rfl,ho⟩,hl⟩
section
variable {prog:Program} {w:World} {A:Around} {E:Value→Shared→Prop} {s:Shared} {K:PySem.W.Frag} {x dx C f:Addr} {mA:Str→Option Value} {name:Str} {v:Value}
theorem get_map {expr:Bool} {Q:Value→Shared→Prop} (X:K.In s.heap) (I:rZ s.heap x dx C mA) (hg:PySem.W.plainGet K C name=true) (hh:PySem.W.hasDictIn K C=true)
  (ha:PySem.W.findIn K (.ref C) name=some none) (hv:mA name=some v) (hv':PySem.W.handedIn v=true) (h:Q v { s with toks:=s.toks + 1 }) :
  wpAny (model prog w) A (getAttr (.ref x) name expr) Q E s:=by
 obtain⟨od,J,hl⟩:=I.look
 exact PySem.W.get_value X J (PySem.W.plainGet_of hg).1 (PySem.W.findObj_own hh ha rfl (by rw[hl,hv])) hv' h
theorem wz {pl:Sem Bool} {Q:Value×List Value→Shared→Prop} (X:K.In s.heap) (I:rZ s.heap x dx C mA) (hg:PySem.W.plainGet K C name=true)
  (hf:PySem.W.findIn K (.ref C) name=some (some (.ref f))) (ht:PySem.W.isFn K (.ref f)=true) (hv:mA name=none) (h:Q (.ref f,[.ref x]) s) :
  wpAny (model prog w) A (getMethod (.ref x) name pl) Q E s:=by
 obtain⟨od,J,hl⟩:=I.look
 exact PySem.W.method_fn X J (PySem.W.plainGet_of hg).1 (PySem.W.plainGet_of hg).2 hf (beq_iff_eq.mp ht) (by show (PySem.W.lookIn name od).map (·.isSome)=some false;rw[hl,hv];rfl) h
theorem xD {ns:List Str} {Q:Unit→Shared→Prop} (X:K.In s.heap) (I:rZ s.heap x dx C mA)
  (hs:PySem.W.findIn K (.ref C) "__setattr__"=some (some (.builtin "object.__setattr__"))) (hp:PySem.W.plainOver K C=true) (ht:PySem.W.takerIn K C name=some none) (hh:PySem.W.hasDictIn K C=true)
  (hw:PySem.Within mA ns) (hsz:ns.length≤sizeLine)
  (h:∀ h',rZ h' x dx C (fun y=>if y=name then some v else mA y)→Heap.SameBut dx s.heap h'→Q () { s with heap:=h',toks:=s.toks + 2 }) :
  wpAny (model prog w) A (setAttr (.ref x) name v) Q E s:=by
 obtain⟨od,J,hl⟩:=I.look
 refine PySem.W.set_plain X J hs (PySem.W.osa_open (s:={ s with toks:=s.toks + 1 }) (r:=none) X J hp ht fun b=>?_)
 obtain⟨cd,hc,hd'⟩:=PySem.W.any_some hh
 have hx:s.heap.get? x=some ⟨.ref C,some dx,.plain,#[]⟩:=I.obj
 refine wpAny_bind (wpAny_pure (wpAny_bind (wpAny_bind (wpAny_loadPart hx (wpAny_bind (PySem.W.Looks.here (s:={ s with toks:=s.toks + 1 }) (PySem.W.looks_clsIn X hc) ?_))))))
 rw[hd']
 refine wpAny_pure (a:=some dx) (wpAny_bind (wpAny_pure (wpAny_bind ?_)))
 refine wpAny_nsSet1 (s:={ s with toks:=s.toks + 1 }) I.ns fun h' hn2 hs2=>?_
 obtain⟨oD,esD,epD,hoD,hdD,hcD⟩:=hn2.count (PySem.Within.cons name v hw)
 refine wpAny_bind (wpAny_lookBehind hoD (by rw[hdD];exact pastItsLine_dict (Nat.le_trans hcD (by rw[List.length_cons];omega))) ?_)
 exact wpAny_pure (h _ ⟨(hs2.2 _ (Ne.symm I.ne)).trans I.obj,hn2,I.ne⟩ hs2)
theorem vT {R:Result→Shared→Prop} {vs:List Value} {kw:List (Str×Value)} (X:K.In s.heap) (hm:PySem.W.makesIn K C=true)
  (hi:PySem.W.findIn K (.ref C) "__init__"=some (some (.ref f))) (hf:PySem.W.typeIn K (.ref f)=some (.type "function"))
  (h:codeAny (model prog w) (A.under (.builtin "type.__call__" ⟨.ref C::vs,kw⟩)) (.call (.ref f) ⟨.ref (s.heap.objs.size + 1)::vs,kw⟩) (PySem.W.InitBack (s.heap.objs.size + 1) R)
   { s with heap:=(s.heap.push PySem.W.emptyDict).push (PySem.W.instObj C s.heap.objs.size) }) :
  codeAny (model prog w) A (.call (.ref C) ⟨vs,kw⟩) R s:=by
 obtain⟨hh,g,d,t,os⟩:=s
 exact PySem.W.make_core (PySem.W.makes_of X hm) (PySem.W.looks_findIn X hi) (fun self=>PySem.W.bind_fn X self hf) (.inl rfl) h
end
def gE (f:Str) (v:V):List (Str×V)→List (Str×V)
 | []=>[(f,v)]
 | (g,x)::r=>if g=f then (g,v)::r else (g,x)::gE f v r
theorem kA (f g:Str) (v:V):∀ fs:List (Str×V),(gE f v fs).lookup g=if g=f then some v else fs.lookup g
 | []=>by
  show List.lookup g [(f,v)]=_
  by_cases h:g=f
  ·have hb:(g == f)=true:=beq_iff_eq.mpr h
   simp only[List.lookup,hb,if_pos h]
  ·have hb:(g == f)=false:=beq_eq_false_iff_ne.mpr h
   simp only[List.lookup,hb,if_neg h]
 | (k,x)::r=>by
  have ih:=kA f g v r
  rw[show gE f v ((k,x)::r)=(if k=f then (k,v)::r else (k,x)::gE f v r) from rfl]
  by_cases hk:k=f
  ·rw[if_pos hk]
   by_cases h:g=k
   ·have hb:(g == k)=true:=beq_iff_eq.mpr h
    simp only[List.lookup,hb,if_pos (h.trans hk)]
   ·have hb:(g == k)=false:=beq_eq_false_iff_ne.mpr h
    simp only[List.lookup,hb,if_neg (fun e:g=f=>h (e.trans hk.symm))]
  ·rw[if_neg hk]
   by_cases h:g=k
   ·have hb:(g == k)=true:=beq_iff_eq.mpr h
    simp only[List.lookup,hb,if_neg (fun e:g=f=>hk (h.symm.trans e))]
   ·have hb:(g == k)=false:=beq_eq_false_iff_ne.mpr h
    simp only[List.lookup,hb]
    exact ih
theorem kb (f:Str) (v:V):∀ fs:List (Str×V),f∈(gE f v fs).map (·.1)∧∀ g,g∈fs.map (·.1)→g∈(gE f v fs).map (·.1)
 | []=>⟨by simp [gE],fun g h=>by simp at h⟩
 | (k,x)::r=>by
  obtain⟨i1,i2⟩:=kb f v r
  rw[show gE f v ((k,x)::r)=(if k=f then (k,v)::r else (k,x)::gE f v r) from rfl]
  by_cases hk:k=f
  ·rw[if_pos hk]
   subst hk
   exact⟨by simp,fun g h=>by simpa using h⟩
  ·rw[if_neg hk]
   refine⟨?_,fun g h=>?_⟩
   ·rw[List.map_cons]
    exact List.mem_cons_of_mem _ i1
   ·rw[List.map_cons] at h ⊢
    rcases List.mem_cons.mp h with e | e
    ·exact List.mem_cons.mpr (.inl e)
    ·exact List.mem_cons_of_mem _ (i2 g e)
theorem kB (f:Str) (v:V):∀ fs:List (Str×V),(gE f v fs).length≤fs.length + 1
 | []=>by simp [gE]
 | (k,x)::r=>by
  have ih:=kB f v r
  rw[show gE f v ((k,x)::r)=(if k=f then (k,v)::r else (k,x)::gE f v r) from rfl]
  by_cases hk:k=f
  ·rw[if_pos hk,List.length_cons,List.length_cons];omega
  ·rw[if_neg hk,List.length_cons,List.length_cons];omega
theorem my.some_of {v:V} {o:Option Value} (r:my (some v) o):∃ u,o=some u∧RelV v u:=by
 cases o with
 | none=>exact(show False from r).elim
 | some u=>exact⟨u,rfl,r⟩
theorem my.none_of {o:Option Value} (r:my none o):o=none:=by
 cases o with
 | none=>rfl
 | some u=>exact(show False from r).elim
theorem ui {v:V} {u:Value} (r:RelV v u):PySem.W.handedIn u=true:=by
 cases v with
 | non=>cases (show u=Value.none from r);rfl
 | bl b=>cases (show u=Value.bool b from r);rfl
 | int i=>obtain⟨t,e⟩:=(show ∃ t,u=Value.int i t from r);cases e;rfl
 | str x=>obtain⟨t,e⟩:=(show ∃ t,u=Value.str x t from r);cases e;rfl
 | byt b=>obtain⟨t,e⟩:=(show ∃ t,u=Value.bytes b t from r);cases e;rfl
 | flt b=>obtain⟨t,e⟩:=(show ∃ t,u=Value.float b t from r);cases e;rfl
 | ref a=>cases (show u=Value.ref a from r);rfl
 | ty n=>cases (show u=Value.type n from r);rfl
section
variable {P:Program} {w:World} {H H':Hp} {h h':Heap} {a C dx:Addr} {fs fs':List (Str×V)}
theorem lB (hok:HOk P w H h) (e:H a=some (.ins C dx fs)):∃ mA,rZ h a dx C mA∧(∀ f,my (fs.lookup f) (mA f))∧PySem.Within mA (fs.map (·.1))∧fs.length≤1000∧H dx=some (.own a):=by
 obtain⟨d,z,ne,ob,mA,n,r,q⟩:=(show cT P w H h a (.ins C dx fs) from hok a _ e)
 exact⟨mA,⟨ob,n,ne⟩,r,q,z,d⟩
end
structure Cls (K:PySem.W.Frag) (C:Addr):Prop where
 pg:PySem.W.plainGet K C Str.empty=true
 hd:PySem.W.hasDictIn K C=true
 po:PySem.W.plainOver K C=true
 sa:PySem.W.findIn K (.ref C) "__setattr__"=some (some (.builtin "object.__setattr__"))
theorem Cls.get {K:PySem.W.Frag} {C:Addr} (c:Cls K C) (f:Str):PySem.W.plainGet K C f=true:=c.pg
def eg (K:PySem.W.Frag) (C:Addr) (f:Str):Prop:=PySem.W.findIn K (.ref C) f=some none
theorem eg.CM {K:PySem.W.Frag} {C:Addr} {f:Str} (n:eg K C f):PySem.W.takerIn K C f=some none:=by
 unfold PySem.W.takerIn
 rw[show PySem.W.findIn K (.ref C) f=some none from n]
 rfl
structure Con (K:PySem.W.Frag) (C:Addr) (f:Str) (v:V) (u:Value):Prop where
 at_:PySem.W.findIn K (.ref C) f=some (some u)
 rel:RelV v u
 get:PySem.W.specialIn K u "__get__"=some none
 cp:PySem.W.copiedNames.contains f=false
structure Meth (K:PySem.W.Frag) (C:Addr) (m:Str) (f:Addr):Prop where
 at_:PySem.W.findIn K (.ref C) m=some (some (.ref f))
 fn:PySem.W.isFn K (.ref f)=true
 kp:PySem.W.keepIn K (.ref f)=true
section
variable {X:Cx} {pins:List (Addr×Obj)} {σ:St} {H:Hp} {s:Shared} {a C dx:Addr} {fs:List (Str×V)} {f:Str} {v:V} {A:Around} {E:Value→Shared→Prop}
theorem rG {b:Bool} {Q:Value→Shared→Prop} (I:Inv X pins σ H s) (e:H a=some (.ins C dx fs)) (c:Cls X.K C) (n:eg X.K C f) (l:fs.lookup f=some v)
  (h:∀ u s',Inv X pins σ H s'→RelV v u→Q u s'):wpAny (model X.prog X.w) A (getAttr (.ref a) f b) Q E s:=by
 obtain⟨mA,O,r,_,_,_⟩:=lB I.hok e
 obtain⟨u,hu,ru⟩:=my.some_of (v:=v) (o:=mA f) (by rw[← l];exact r f)
 exact get_map I.kIn O (c.get f) c.hd n hu (ui ru) (h u _ (I.tok _) ru)
theorem jm {m:Str} {g:Addr} {pl:Sem Bool} {Q:Value×List Value→Shared→Prop} (I:Inv X pins σ H s) (e:H a=some (.ins C dx fs)) (c:Cls X.K C) (k:Meth X.K C m g) (l:fs.lookup m=none)
  (h:Q (.ref g,[.ref a]) s):wpAny (model X.prog X.w) A (getMethod (.ref a) m pl) Q E s:=by
 obtain⟨mA,O,r,_,_,_⟩:=lB I.hok e
 have hn:mA m=none:=my.none_of (by rw[← l];exact r m)
 exact wz I.kIn O (c.get m) k.at_ k.fn hn h
theorem qE {y:V} {u:Value} {Q:Unit→Shared→Prop} (I:Inv X pins σ H s) (e:H a=some (.ins C dx fs)) (c:Cls X.K C) (n:eg X.K C f) (hl:fs.length < 1000) (ry:RelV y u)
  (h:∀ s',Inv X pins σ (upd H a (.ins C dx (gE f y fs))) s'→Q () s'):wpAny (model X.prog X.w) A (setAttr (.ref a) f u) Q E s:=by
 obtain⟨mA,O,r,wi,_,ho⟩:=lB I.hok e
 have hz:(fs.map (·.1)).length≤sizeLine:=by rw[List.length_map,sizeLine_eq];omega
 refine xD I.kIn O c.sa c.po n.CM c.hd wi hz fun h' O' sb=>h _ ?_
 have hd:∃ o,h'.get? dx=some o:=let ⟨o,_,_,e',_⟩:=O'.ns;⟨o,e'⟩
 refine I.write (x:=a) (e:=dx) (by rw[e];exact True.intro) (.inr ho) (fun b q hb z=>(sb.2 b hb).trans z) hd ?_
 refine⟨by rw[ak O.ne];exact ho,?_,O.ne,O'.obj,_,O'.ns,fun g=>?_,fun g hg=>?_⟩
 ·have:=kB f y fs;omega
 ·show my ((gE f y fs).lookup g) (if g=f then some u else mA g)
  rw[kA]
  by_cases q:g=f
  ·rw[if_pos q,if_pos q];exact ry
  ·rw[if_neg q,if_neg q];exact r g
 ·by_cases q:g=f
  ·rw[q];exact(kb f y fs).1
  ·refine(kb f y fs).2 g (wi g fun z=>hg ?_)
   show (if g=f then some u else mA g)=none
   rw[if_neg q];exact z
theorem Inv.made (I:Inv X pins σ H s):Inv X pins σ (upd (upd H s.heap.objs.size (.own (s.heap.objs.size + 1))) (s.heap.objs.size + 1) (.ins C s.heap.objs.size []))
  { s with heap:=(s.heap.push PySem.W.emptyDict).push (PySem.W.instObj C s.heap.objs.size) }:=by
 have e1:(s.heap.push PySem.W.emptyDict).get? s.heap.objs.size=some PySem.W.emptyDict:=Heap.get?_push_size s.heap rfl
 have e2:((s.heap.push PySem.W.emptyDict).push (PySem.W.instObj C s.heap.objs.size)).get? (s.heap.objs.size + 1)=some (PySem.W.instObj C s.heap.objs.size):=by
  have:=Heap.get?_push_size (s.heap.push PySem.W.emptyDict) (o:=PySem.W.instObj C s.heap.objs.size) rfl
  rwa [Heap.size_push] at this
 have e3:(s.heap.push PySem.W.emptyDict).Ns s.heap.objs.size (fun _=>none):=⟨PySem.W.emptyDict,#[],_,e1,rfl,(fun e he=>absurd he (by simp)),fun _=>rfl⟩
 have I1:=I.laid (a:=s.heap.objs.size) (o:=.own (s.heap.objs.size + 1)) (h':=s.heap.push PySem.W.emptyDict) (t':=s.toks) (fun b u q=>Heap.get?_push_of_some _ q) (Nat.le_refl _) ⟨_,e1⟩
 refine I1.laid (a:=s.heap.objs.size + 1) (o:=.ins C s.heap.objs.size []) (t':=s.toks) (fun b u q=>Heap.get?_push_of_some _ q) (Nat.le_of_eq (Heap.size_push _ _)) ?_
 have ne:s.heap.objs.size≠s.heap.objs.size + 1:=Nat.ne_of_lt (Nat.lt_succ_self _)
 refine⟨by rw[ak ne,aD],Nat.zero_le _,ne,e2,fun _=>none,(Heap.Ns1.of_empty e3).at fun o q=>Heap.get?_push_of_some _ q,fun _=>True.intro,fun y hy=>absurd rfl hy⟩
theorem y9 {prog:Program} {w:World} {env:Env} {e:Expr} {f:Str} {pos:Pos} {s:Shared} {Q:Value→Shared→Prop} (hb:attributeBase e f env (eval e env)=eval e env)
  (h:wpAny (model prog w) A (eval e env) (fun o s₁=>wpAny (model prog w) A (getAttr o f true) Q E s₁) E s):wpAny (model prog w) A (eval (.Attribute e f pos) env) Q E s:=
 Attribute_any_ h (by rw[arm_eval_Attribute,hb])
end
def CT (K:PySem.W.Frag) (ta:TE) (f:Str):TE:=fun σ H Q=>ta σ H fun x H1=>∃ a C dx fs v,x=.ref a∧H1 a=some (.ins C dx fs)∧Cls K C∧eg K C f∧fs.lookup f=some v∧Q v H1
def Hk (K:PySem.W.Frag) (ta:TE) (f:Str):TE:=fun σ H Q=>ta σ H fun x H1=>∃ a C dx fs v u,x=.ref a∧H1 a=some (.ins C dx fs)∧Cls K C∧Con K C f v u∧fs.lookup f=none∧Q v H1
def AI (K:PySem.W.Frag) (ta tv:TE) (f:Str):TS:=fun D σ H=>tv σ H fun y H1=>ta σ H1 fun x H2=>∃ a C dx fs,x=.ref a∧H2 a=some (.ins C dx fs)∧Cls K C∧eg K C f∧fs.length < 1000∧
 D.nx σ (upd H2 a (.ins C dx (gE f y fs)))
def HV (X:Cx) (op:Operator) (rd:V→V→Hp→VK→Prop):Prop:=
 ∀ (pins:List (Addr×Obj)) (s:Shared) (σ:St) (H:Hp) (x y:V) (u v:Value) (Q:VK),Inv X pins σ H s→RelV x u→RelV y v→rd x y H Q→wpAny (model X.prog X.w) X.A (inplaceOp op u v) (EP X pins σ Q) X.xe s
def EN (K:PySem.W.Frag) (ta tv:TE) (rd:V→V→Hp→VK→Prop) (f:Str):TS:=fun D σ H=>ta σ H fun x H1=>∃ a C dx fs v,x=.ref a∧H1 a=some (.ins C dx fs)∧Cls K C∧eg K C f∧fs.lookup f=some v∧
 tv σ H1 fun y H2=>rd v y H2 fun z H3=>∃ dx' fs',H3 a=some (.ins C dx' fs')∧fs'.length < 1000∧D.nx σ (upd H3 a (.ins C dx' (gE f z fs')))
section
variable {X:Cx} {o e value:Expr} {f:Str} {pos pos' tpos:Pos} {ta tv:TE}
theorem Bb (he:PE X e ta) (hb:attributeBase e f X.env (eval e X.env)=eval e X.env):PE X (.Attribute e f pos) (CT X.K ta f):=by
 intro pins s σ H Q I h
 refine y9 hb (thn (he pins s σ H _ I h) fun u s1 ⟨x,H1,I1,rx,a,C,dx,fs,v,ex,ea,c,n,l,q⟩=>?_)
 subst ex
 obtain rfl:u=Value.ref a:=rx
 exact rG I1 ea c n l fun u' s2 I2 ru=>⟨v,H1,I2,ru,q⟩
theorem AZ (ha:PE X o ta) (hv:PE X value tv) (hs:swapsWith value (some (.Attribute o f pos')) pos.line X.env=pure false):PS X (.Assign [.Attribute o f pos'] value pos) (AI X.K ta tv f):=by
 intro pins s σ H D I h
 refine plainObj_wpAny_Assign_Attribute (thn (hv pins s σ H _ I h) fun u s1 ⟨y,H1,I1,ry,q⟩=>thn (ha pins s1 σ H1 _ I1 q) fun ov s2 ⟨x,H2,I2,rx,a,C,dx,fs,ex,ea,c,n,l,q2⟩=>?_) hs
 subst ex
 obtain rfl:ov=Value.ref a:=rx
 exact qE I2 ea c n l ry fun s3 I3=>⟨σ,_,I3,q2⟩
def xU:V→V→Hp→VK→Prop:=fun x y H Q=>∃ i j,x=.int i∧y=.int j∧Q (.int (i + j)) H
def Hs:V→V→Hp→VK→Prop:=fun x y H Q=>∃ i j,x=.int i∧y=.int j∧Q (.int (i - j)) H
theorem zF {pl:Sem Bool} {m:Str} {apos:Pos} {args:List Expr} {pins:List (Addr×Obj)} {s:Shared} {σ:St} {H:Hp} {Q:Value→Shared→Prop} {te:TE} (he:PE X e te) (I:Inv X pins σ H s)
  (h:te σ H fun x H1=>∃ a C dx fs g,x=.ref a∧H1 a=some (.ins C dx fs)∧Cls X.K C∧Meth X.K C m g∧fs.lookup m=none∧
   ∀ s1,Inv X pins σ H1 s1→wpAny (model X.prog X.w) X.A (callWith pos (.ref g) [.ref a] (backTo pos (starEach args X.env)) (backToKw pos (keywordEach [] X.env))) Q X.xe s1)
  (ht:eval (.Call (.Attribute e m apos) args [] pos) X.env=(do
   let ov ← eval e X.env
   standAt apos.atName
   let (f,first) ← holding [ov] (getMethod ov m pl)
   callWith pos f first (backTo pos (starEach args X.env)) (backToKw pos (keywordEach [] X.env)))) :
  wpAny (model X.prog X.w) X.A (eval (.Call (.Attribute e m apos) args [] pos) X.env) Q X.xe s:=by
 refine PySem.W.methodCall_KW (pl:=pl) (thn (he pins s σ H _ I h) fun u s1 ⟨x,H1,I1,rx,a,C,dx,fs,g,ex,ea,c,k,l,q⟩=>?_) ht
 subst ex
 obtain rfl:u=Value.ref a:=rx
 exact jm I1 ea c k l (q s1 I1)
end
section
variable {X:Cx} {pins:List (Addr×Obj)} {σ:St} {H:Hp} {s:Shared} {A:Around} {E:Value→Shared→Prop} {Q:Value→Shared→Prop} {c:Value} {b:Bool}
inductive i5 (K:PySem.W.Frag) (H:Hp):V→Value→Prop where
 | non:i5 K H .non (.type "NoneType")
 | bl (x:Bool):i5 K H (.bl x) (.type "bool")
 | int (i:Int):i5 K H (.int i) (.type "int")
 | str (x:Str):i5 K H (.str x) (.type "str")
 | flt (x:UInt64):i5 K H (.flt x) (.type "float")
 | lst {a:Addr} {xs:List V} (e:H a=some (.lst xs)):i5 K H (.ref a) (.type "list")
 | frz {a:Addr} {o:Obj} {xs:List V} (e:H a=some (.frz o (.lst xs))):i5 K H (.ref a) (.type "list")
 | tup {a:Addr} {xs:List V} (e:H a=some (.tup xs)):i5 K H (.ref a) (.type "tuple")
 | dK {a:Addr} {kvs:List (Key×V)} (e:H a=some (.dK kvs)):i5 K H (.ref a) (.type "dict")
 | dT {a:Addr} {kvs:List (List Key×V)} (e:H a=some (.dT kvs)):i5 K H (.ref a) (.type "dict")
 | ins {a C dx:Addr} {fs:List (Str×V)} (e:H a=some (.ins C dx fs)) (cl:Cls K C) (ha:PySem.W.findIn K (.ref C) "__class__"=some (some (.builtin "object.__class__")))
   (hn:PySem.W.specialIn K (.builtin "object.__class__") "__get__"=some (some (.builtin "getset_descriptor.__get__"))) (htk:PySem.W.takesIn K (.builtin "object.__class__")=some true)
   (hm:PySem.W.mroIn K C (.type "object")=some true):i5 K H (.ref a) (.ref C)
theorem nC {x:V} {u t:Value} (I:Inv X pins σ H s) (rx:RelV x u) (ty:i5 X.K H x t) (e:PySem.W.kitOne X.K t c=some b) (h:∀ tk,Q (.bool b) { s with toks:=tk }) :
  wpAny (model X.prog X.w) A (call (.builtin "isinstance") [u,c]) Q E s:=by
 cases ty with
 | non=>cases (show u=Value.none from rx);exact PySem.W.kia_one PySem.W.kitx_none I.kIn True.intro e (fun z=>nomatch z) h
 | bl y=>cases (show u=Value.bool y from rx);exact PySem.W.kia_one PySem.W.kitx_bool I.kIn True.intro e (fun z=>nomatch z) h
 | int i=>obtain⟨t,q⟩:=(show ∃ t,u=Value.int i t from rx);cases q;exact PySem.W.kia_one PySem.W.kitx_int I.kIn True.intro e (fun z=>nomatch z) h
 | str y=>obtain⟨t,q⟩:=(show ∃ t,u=Value.str y t from rx);cases q;exact PySem.W.kia_one PySem.W.kitx_str I.kIn True.intro e (fun z=>nomatch z) h
 | flt y=>obtain⟨t,q⟩:=(show ∃ t,u=Value.float y t from rx);cases q;exact PySem.W.kia_one PySem.W.kitx_float I.kIn True.intro e (fun z=>nomatch z) h
 | @lst a xs ea=>
  cases (show u=Value.ref a from rx)
  obtain⟨_,_,n,_,h1⟩:=(show cT X.prog X.w H s.heap a (.lst xs) from I.hok a _ ea)
  exact PySem.W.kia_one PySem.W.kitx_list I.kIn ⟨_,h1,rfl⟩ e (fun z=>nomatch z) h
 | @frz a ob xs ea=>
  cases (show u=Value.ref a from rx)
  obtain⟨_,_,_,n,_,h1⟩:=(show cT X.prog X.w H s.heap a (.frz ob (.lst xs)) from I.hok a _ ea)
  exact PySem.W.kia_one PySem.W.kitx_list I.kIn ⟨_,h1,rfl⟩ e (fun z=>nomatch z) h
 | @tup a xs ea=>
  cases (show u=Value.ref a from rx)
  obtain⟨_,_,_,p⟩:=(show cT X.prog X.w H s.heap a (.tup xs) from I.hok a _ ea)
  obtain⟨o,h1,h2,_⟩:=p
  exact PySem.W.kia_one PySem.W.kitx_tuple I.kIn ⟨o,h1,h2⟩ e (fun z=>nomatch z) h
 | @dK a kvs ea=>
  cases (show u=Value.ref a from rx)
  obtain⟨_,_,vs,_,p⟩:=(show cT X.prog X.w H s.heap a (.dK kvs) from I.hok a _ ea)
  obtain⟨o,es,ep,h1,h2,_⟩:=p
  exact PySem.W.kia_one PySem.W.kitx_dict I.kIn ⟨o,h1,h2.1⟩ e (fun z=>nomatch z) h
 | @dT a kvs ea=>
  cases (show u=Value.ref a from rx)
  obtain⟨_,_,xs,_,o,es,ep,h1,h2,_⟩:=(show cT X.prog X.w H s.heap a (.dT kvs) from I.hok a _ ea)
  exact PySem.W.kia_one PySem.W.kitx_dict I.kIn ⟨o,h1,h2.1⟩ e (fun z=>nomatch z) h
 | @ins a C dx fs ea cl ha hn htk hm=>
  cases (show u=Value.ref a from rx)
  obtain⟨mA,O,_⟩:=lB I.hok ea
  obtain⟨od,J,_⟩:=O.look
  exact PySem.W.kia_one (PySem.W.kitx_own (cl.get _) cl.hd ha hn htk hm) I.kIn J e (fun z=>nomatch z) h
end
end L2
namespace L2
open PySem PySem.Spec PyProof.Rows
structure cJ (k:Nat) (A:Around):Prop where
 hd:A.handled=none
 dp:A.depth + 3 * k + 5 < recursionLimit
 un:A.units + 16 * k + 200 < cLine
 gd:A.guards=some []
theorem cJ.mono {j k:Nat} {A:Around} (r:cJ k A) (h:j≤k):cJ j A:=⟨r.hd,by have:=r.dp;omega,by have:=r.un;omega,r.gd⟩
theorem cJ.deeper {k:Nat} {A:Around} (r:cJ (k + 1) A) (env:Env):cJ k (A.deeper env):=
 ⟨r.hd,by have:=r.dp;show A.depth + 1 + 3 * k + 5 < _;omega,by have:=r.un;show A.units + 3 + 16 * k + 200 < _;omega,r.gd⟩
theorem qZ {A:Around} {C:Addr} {us:List Value} {kw:List (Str×Value)}:(A.under (.builtin "type.__call__" ⟨.ref C::us,kw⟩)).depth=A.depth + 1:=by
 first | rfl | simp [Around.under,Code.weight,Code.isCreation,Code.isGuard,Code.isCaller,Code.frames,Code.isFrame,guardIds]
theorem qY {A:Around} {C:Addr} {us:List Value} {kw:List (Str×Value)}:(A.under (.builtin "type.__call__" ⟨.ref C::us,kw⟩)).units=A.units + 1:=by
 first | rfl | simp [Around.under,Code.cUnits,Code.frames,Code.isFrame]
theorem pV {A:Around} {C:Addr} {us:List Value} {kw:List (Str×Value)}:(A.under (.builtin "type.__call__" ⟨.ref C::us,kw⟩)).guards=A.guards:=by
 first | rfl | simp [Around.under,pushGuards,Code.guards,Code.isGuard,guardIds] | (cases A;simp [Around.under,pushGuards,Code.guards,Code.isGuard,guardIds])
theorem cJ.make {k:Nat} {A:Around} (r:cJ (k + 1) A) (C:Addr) (us:List Value) (kw:List (Str×Value)):cJ k (A.under (.builtin "type.__call__" ⟨.ref C::us,kw⟩)):=
 ⟨r.hd,by have:=r.dp;rw[qZ];omega,by have:=r.un;rw[qY];omega,by have:=r.gd;rw[pV];exact this⟩
theorem cJ.depth {k:Nat} {A:Around} (r:cJ k A):A.depth < recursionLimit:=by have:=r.dp;omega
theorem cJ.units {k:Nat} {A:Around} (r:cJ k A):A.units + 64 < cLine:=by have:=r.un;omega
def kL:TA:=fun _ H Q=>Q [] H
def gg (ta:TE) (tr:TA):TA:=fun σ H Q=>ta σ H fun x H1=>tr σ H1 fun xs H2=>Q (x::xs) H2
section
variable {X:Cx} {e:Expr} {es:List Expr} {te:TE} {t:TA} {pos:Pos}
theorem jg:PA X [] kL:=fun _ _ _ _ H Q I h=>Calls.spliced_nil ⟨[],H,I,.nil,h⟩
theorem eW (ha:PE X e te) (hr:PA X es t) (hs:starEach (e::es) X.env=(false,eval e X.env)::starEach es X.env:=by rfl):PA X (e::es) (gg te t):=by
 intro pos pins s σ H Q I h
 rw[hs]
 show wpAny _ _ (spliced ((false,eval e X.env)::backTo pos (starEach es X.env))) _ _ s
 refine Calls.spliced_cons (thn (ha pins s σ H _ I h) fun u s1 ⟨x,H1,I1,r1,q1⟩=>?_)
 exact thn (hr pos pins s1 σ H1 _ I1 q1) fun us s2 ⟨xs,H2,I2,r2,q2⟩=>⟨x::xs,H2,I2,.cons r1 r2,q2⟩
def CN (t:TA):TE:=fun σ H Q=>t σ H fun xs H1=>xs.length≤sizeLine∧∀ p,H1 p=none→Q (.ref p) (upd H1 p (.tup xs))
def CP (t:TA):TE:=fun σ H Q=>t σ H fun xs H1=>xs.length≤sizeLine∧∀ p,H1 p=none→Q (.ref p) (upd H1 p (.lst xs))
theorem A6 {x1} (h:PA X es t):PE X (.Tuple es x1 pos) (CN t):=by
 intro pins s σ H Q I hq
 refine wpAny_Tuple_spliced (thn (h pos pins s σ H _ I hq) fun us s1 ⟨xs,H1,I1,r,z,q⟩=>⟨by rw[← r.length];exact z,?_⟩)
 have hf:H1 s1.heap.objs.size=none:=I1.hok.fresh (Nat.le_refl _)
 refine⟨.ref s1.heap.objs.size,upd H1 s1.heap.objs.size (.tup xs),I1.laid (t':=s1.toks) (fun b u e=>Heap.get?_push_of_some _ e) (Nat.le_refl _) ?_,rfl,q _ hf⟩
 exact⟨z,us,r,⟨_,Heap.get?_push_size _ rfl,rfl,_,rfl⟩⟩
theorem Ba (h:PA X es t):PE X (.List es pos) (CP t):=by
 intro pins s σ H Q I hq
 refine wpAny_List_spliced (thn (h pos pins s σ H _ I hq) fun us s1 ⟨xs,H1,I1,r,z,q⟩=>⟨by rw[← r.length];exact z,?_⟩)
 have hf:H1 s1.heap.objs.size=none:=I1.hok.fresh (Nat.le_refl _)
 refine⟨.ref s1.heap.objs.size,upd H1 s1.heap.objs.size (.lst xs),I1.laid (t':=s1.toks) (fun b u e=>Heap.get?_push_of_some _ e) (Nat.le_refl _) ?_,rfl,q _ hf⟩
 exact⟨z,us,0,r,Heap.get?_push_size _ rfl⟩
end
abbrev Sp:=List V→Hp→VK→XK→Prop
abbrev CXT:=List Env→Hp→Shared→XK→Value→Shared→Prop
structure r9 (P:Program) (w:World) (K:PySem.W.Frag) (mg:Str→Option Value) (base:Heap) (A:Around) (outer:List Env) (s:Shared) (H:Hp):Prop where
 frames:A.frames=some outer
 mod:Mod K mg base
 bs:∀ b o,base.get? b=some o→s.heap.get? b=some o∧H b=none
 bsz:base.objs.size≤s.heap.objs.size
 kd:s.heap.FunFrames base outer
 frf:∀ b∈frs outer,H b=none
 hok:HOk P w H s.heap
 bare:AllBare s.gens
def CE (outer:List Env) (P:Program) (w:World) (H:Hp) (s:Shared) (Q:VK) (u:Value) (s':Shared):Prop:=
 ∃ v H',s'.os=s.os∧AllBare s'.gens∧Un (frs outer) [] H H' s.heap s'.heap∧HOk P w H' s'.heap∧RelV v u∧Q v H'
def CR (CX:CXT) (outer:List Env) (P:Program) (w:World) (H:Hp) (s:Shared) (Q:VK) (E:XK) (r:Result) (s':Shared):Prop:=
 match r with
 | .ok (.ret u)=>CE outer P w H s Q u s'
 | .ok _=>False
 | .error e=>CX outer H s E e s'
structure bK (P:Program) (w:World) (K:PySem.W.Frag) (mg:Str→Option Value) (base:Heap) (CX:CXT) (k:Nat) (f:Addr) (fd:FuncData) (ps:List Str) (sp:Sp):Prop where
 len:∀ vs H Q E,sp vs H Q E→vs.length=ps.length
 run:∀ (A:Around) (outer:List Env) (s:Shared) (H:Hp) (args:Args) (us:List Value) (vs:List V) (Q:VK) (E:XK),cJ k A→r9 P w K mg base A outer s H→BindsTo s fd args (ps.zip us)→Vals vs us→sp vs H Q E→
  codeAny (model P w) A (.call (.ref f) args) (CR CX outer P w H s Q E) s
theorem bK.imp {P:Program} {w:World} {K:PySem.W.Frag} {mg:Str→Option Value} {base:Heap} {CX:CXT} {k:Nat} {f:Addr} {fd:FuncData} {ps:List Str} {sp sp':Sp} (F:bK P w K mg base CX k f fd ps sp)
  (h:∀ vs H Q E,sp' vs H Q E→sp vs H Q E):bK P w K mg base CX k f fd ps sp':=
 ⟨fun vs H Q E q=>F.len vs H Q E (h _ _ _ _ q),fun A outer s H args us vs Q E hr he hb hv hs=>F.run A outer s H args us vs Q E hr he hb hv (h _ _ _ _ hs)⟩
theorem r9.make {P:Program} {w:World} {K:PySem.W.Frag} {mg:Str→Option Value} {base:Heap} {A:Around} {outer:List Env} {s:Shared} {H:Hp} (e:r9 P w K mg base A outer s H) (C:Addr) (us:List Value) (kw:List (Str×Value)) :
  r9 P w K mg base (A.under (.builtin "type.__call__" ⟨.ref C::us,kw⟩)) outer s H:=⟨by first | exact e.frames | (simpa [Around.under,Code.envs,Code.isFrame,pushEnvs] using e.frames),e.mod,e.bs,e.bsz,e.kd,e.frf,e.hok,e.bare⟩
section
variable {X:Cx} {pins:List (Addr×Obj)} {σ:St} {H:Hp} {s s':Shared}
theorem Inv.Eb (I:Inv X pins σ H s):r9 X.prog X.w X.K X.mg X.base X.A X.stack s H:=
 ⟨I.ok.frames,I.ok.mod,I.bs,Nat.le_trans I.ok.bsz I.sz,I.stack,I.sk,I.hok,I.bare⟩
theorem Inv.after {Q:VK} {u:Value} (I:Inv X pins σ H s) (h:CE X.stack X.prog X.w H s Q u s'):EP X pins σ Q u s':=by
 obtain⟨v,H',os,bare,un,hok,r,q⟩:=h
 obtain⟨hh,g,d,t,os'⟩:=s'
 obtain rfl:os'=s.os:=os
 exact⟨v,H',I.call (h':=hh) (g':=g) (d':=d) (t':=t) (ch:=[]) un hok bare (fun b z=>absurd z (by simp)),r,q⟩
end
def lH (sp:Sp) (dvs:List V) (E:XK) (t:TA):TE:=fun σ H Q=>t σ H fun vs H1=>sp (vs++dvs) H1 Q E
def m3 (C:Addr) (m:Str) (sp:Sp) (dvs:List V) (E:XK) (ta:TE) (t:TA):TE:=fun σ H Q=>ta σ H fun x H1=>∃ a dx fs,x=.ref a∧H1 a=some (.ins C dx fs)∧fs.lookup m=none∧
 t σ H1 fun vs H2=>sp (x::(vs++dvs)) H2 Q E
def sj (C:Addr) (sp:Sp) (dvs:List V) (E:XK) (t:TA):TE:=fun σ H Q=>t σ H fun vs H1=>∀ x dx,H1 x=none→H1 dx=none→dx≠x→
 sp (.ref x::(vs++dvs)) (upd (upd H1 dx (.own x)) x (.ins C dx [])) (fun v H2=>v=.non∧Q (.ref x) H2) E
def Binds (K:PySem.W.Frag) (fd:FuncData) (ps:List Str) (ds:List Value):Prop:=
 ∀ (s:Shared) (us:List Value),K.In s.heap→(us++ds).length=ps.length→BindsTo s fd ⟨us,[]⟩ (ps.zip (us++ds))
theorem Binds.all {K:PySem.W.Frag} {fd:FuncData} {ps:List Str} (h:∀ us:List Value,us.length=ps.length→bindArgs fd ⟨us,[]⟩=pure (ps.zip us)):Binds K fd ps []:=fun s us _ hl=>by
 rw[List.append_nil] at hl ⊢
 exact .of_eq (h us hl)
def Passes (CX:CXT) (X:Cx) (E:XK):Prop:=∀ (pins:List (Addr×Obj)) (σ:St) (H:Hp) (s:Shared) (e:Value) (s':Shared),Inv X pins σ H s→CX X.stack H s E e s'→X.xe e s'
section
variable {X:Cx} {CX:CXT} {k:Nat} {f C:Addr} {fd:FuncData} {ps:List Str} {sp:Sp} {dvs:List V} {ds:List Value} {E:XK} {x m:Str} {p pos apos:Pos} {e o:Expr} {es:List Expr} {ta:TE} {t:TA}
theorem qH {pins:List (Addr×Obj)} {σ:St} {H:Hp} {s:Shared} {Q:VK} {us:List Value} {vs:List V} (F:bK X.prog X.w X.K X.mg X.base CX k f fd ps sp) (hr:cJ k X.A) (hb:Binds X.K fd ps ds) (hd:Vals dvs ds) (hx:Passes CX X E)
  (I:Inv X pins σ H s) (r:Vals vs us) (h:sp (vs++dvs) H Q E):wpAny (model X.prog X.w) X.A (call (.ref f) us) (EP X pins σ Q) X.xe s:=by
 have r2:Vals (vs++dvs) (us++ds):=r.append hd
 have hl:(us++ds).length=ps.length:=by rw[← r2.length];exact F.len _ _ _ _ h
 refine wpAny_call (codeAny_mono (F.run X.A X.stack s H ⟨us,[]⟩ (us++ds) (vs++dvs) Q E hr I.Eb (hb s us I.kIn hl) r2 h) fun r s' hq=>?_)
 cases r with
 | error e=>exact hx pins σ H s e s' I hq
 | ok fl=>
  cases fl with
  | ret u=>exact I.after hq
  | next=>exact False.elim hq
  | brk=>exact False.elim hq
  | cont=>exact False.elim hq
theorem oh (F:bK X.prog X.w X.K X.mg X.base CX k f fd ps sp) (hr:cJ k X.A) (hg:Gl X x) (hm:X.mg x=some (.ref f)) (hk:PySem.W.keepIn X.K (.ref f)=true) (hb:Binds X.K fd ps ds) (hd:Vals dvs ds) (hx:Passes CX X E)
  (ha:PA X (e::es) t) (hdb:(x == ("__debug__":Str))=false:=by decide) (he:starEach (e::es) X.env=(false,eval e X.env)::starEach es X.env:=by rfl) (hpl:(backTo pos (starEach es X.env)).any (·.1)=false:=by rfl) :
  PE X (.Call (.Name x p) (e::es) [] pos) (lH sp dvs E t):=by
 intro pins s σ H Q I h
 refine wpAny_Call_Name_kw (oy I hg hm ?_ hdb)
 refine PySem.W.callWith_K (h₀:=X.base) I.ok.mod.kin hk (thn (ha pos pins s σ H _ I h) fun us s1 ⟨vs,H1,I1,r,q⟩=>⟨I1.kIn,?_⟩) he hpl
 exact qH F hr hb hd hx I1 r q
theorem x8 {pl:Sem Bool} (he:PE X o ta) (c:Cls X.K C) (hm:Meth X.K C m f) (F:bK X.prog X.w X.K X.mg X.base CX k f fd ps sp) (hr:cJ k X.A) (hb:Binds X.K fd ps ds) (hd:Vals dvs ds) (hx:Passes CX X E) (ha:PA X (e::es) t)
  (hst:starEach (e::es) X.env=(false,eval e X.env)::starEach es X.env:=by rfl) (hpl:(backTo pos (starEach es X.env)).any (·.1)=false:=by rfl)
  (ht:eval (.Call (.Attribute o m apos) (e::es) [] pos) X.env=(do
   let ov ← eval o X.env
   standAt apos.atName
   let (f,first) ← holding [ov] (getMethod ov m pl)
   callWith pos f first (backTo pos (starEach (e::es) X.env)) (backToKw pos (keywordEach [] X.env))):=by rfl) :
  PE X (.Call (.Attribute o m apos) (e::es) [] pos) (m3 C m sp dvs E ta t):=by
 intro pins s σ H Q I h
 refine PySem.W.methodCall_KW (pl:=pl) (thn (he pins s σ H _ I h) fun u s1 ⟨x,H1,I1,rx,a,dx,fs,ex,ea,l,q⟩=>?_) ht
 subst ex
 obtain rfl:u=Value.ref a:=rx
 refine jm I1 ea c hm l ?_
 refine PySem.W.callWith_K (first:=[.ref a]) (h₀:=X.base) I.ok.mod.kin hm.kp (thn (ha pos pins s1 σ H1 _ I1 q) fun us s2 ⟨vs,H2,I2,r,q2⟩=>⟨I2.kIn,?_⟩) hst hpl
 exact qH (us:=.ref a::us) (vs:=.ref a::vs) F hr hb hd hx I2 (.cons rfl r) q2
theorem vw {pl:Sem Bool} (he:PE X o ta) (c:Cls X.K C) (hm:Meth X.K C m f) (F:bK X.prog X.w X.K X.mg X.base CX k f fd ps sp) (hr:cJ k X.A) (hb:Binds X.K fd ps ds) (hd:Vals dvs ds) (hx:Passes CX X E)
  (ht:eval (.Call (.Attribute o m apos) [] [] pos) X.env=(do
   let ov ← eval o X.env
   standAt apos.atName
   let (f,first) ← holding [ov] (getMethod ov m pl)
   callWith pos f first (backTo pos (starEach [] X.env)) (backToKw pos (keywordEach [] X.env))):=by rfl) :
  PE X (.Call (.Attribute o m apos) [] [] pos) (m3 C m sp dvs E ta kL):=by
 intro pins s σ H Q I h
 refine PySem.W.methodCall_KW (pl:=pl) (thn (he pins s σ H _ I h) fun u s1 ⟨x,H1,I1,rx,a,dx,fs,ex,ea,l,q⟩=>?_) ht
 subst ex
 obtain rfl:u=Value.ref a:=rx
 refine jm I1 ea c hm l ?_
 exact PySem.W.callWith_K0 (first:=[.ref a]) I1.kIn hm.kp (qH (us:=[.ref a]) (vs:=[.ref a]) F hr hb hd hx I1 (.cons rfl .nil) q)
structure Mk (K:PySem.W.Frag) (C f:Addr):Prop where
 makes:PySem.W.makesIn K C=true
 init:PySem.W.findIn K (.ref C) "__init__"=some (some (.ref f))
 fn:PySem.W.isFn K (.ref f)=true
 kp:PySem.W.keepIn K (.ref C)=true
theorem uX {pins:List (Addr×Obj)} {σ:St} {H:Hp} {s:Shared} {Q:VK} {us:List Value} {vs:List V} (M:Mk X.K C f) (F:bK X.prog X.w X.K X.mg X.base CX k f fd ps sp) (hr:cJ (k + 1) X.A) (hb:Binds X.K fd ps ds) (hd:Vals dvs ds)
  (hx:Passes CX X E) (I:Inv X pins σ H s) (r:Vals vs us)
  (h:∀ x dx,H x=none→H dx=none→dx≠x→sp (.ref x::(vs++dvs)) (upd (upd H dx (.own x)) x (.ins C dx [])) (fun v H2=>v=.non∧Q (.ref x) H2) E) :
  wpAny (model X.prog X.w) X.A (call (.ref C) us) (EP X pins σ Q) X.xe s:=by
 have hq:=h (s.heap.objs.size + 1) s.heap.objs.size (I.hok.fresh (Nat.le_succ _)) (I.hok.fresh (Nat.le_refl _)) (Nat.ne_of_lt (Nat.lt_succ_self _))
 have I2:=Inv.made (C:=C) I
 have r2:Vals (V.ref (s.heap.objs.size + 1)::(vs++dvs)) (Value.ref (s.heap.objs.size + 1)::(us++ds)):=.cons rfl (r.append hd)
 have hl:(Value.ref (s.heap.objs.size + 1)::us++ds).length=ps.length:=by
  have e:=r2.length
  rw[F.len _ _ _ _ hq] at e
  exact e.symm
 refine wpAny_call (vT (f:=f) I.kIn M.makes M.init (beq_iff_eq.mp M.fn) (codeAny_mono (F.run _ X.stack _ _ ⟨Value.ref (s.heap.objs.size + 1)::us,[]⟩ (Value.ref (s.heap.objs.size + 1)::(us++ds)) _ _ E (hr.make C us [])
  (I2.Eb.make C us []) (hb _ (Value.ref (s.heap.objs.size + 1)::us) I2.kIn hl) r2 hq) fun r s' hq'=>?_))
 cases r with
 | error e=>exact hx pins σ _ _ e s' I2 hq'
 | ok fl=>
  cases fl with
  | ret u=>
   obtain⟨v,H',I3,rv,ev,q3⟩:=I2.after hq'
   subst ev
   exact⟨rv,⟨V.ref (s.heap.objs.size + 1),H',I3,rfl,q3⟩⟩
  | next=>exact False.elim hq'
  | brk=>exact False.elim hq'
  | cont=>exact False.elim hq'
theorem x9 (M:Mk X.K C f) (F:bK X.prog X.w X.K X.mg X.base CX k f fd ps sp) (hr:cJ (k + 1) X.A) (hg:Gl X x) (hm:X.mg x=some (.ref C)) (hb:Binds X.K fd ps ds) (hd:Vals dvs ds) (hx:Passes CX X E)
  (ha:PA X (e::es) t) (hdb:(x == ("__debug__":Str))=false:=by decide) (he:starEach (e::es) X.env=(false,eval e X.env)::starEach es X.env:=by rfl) (hpl:(backTo pos (starEach es X.env)).any (·.1)=false:=by rfl) :
  PE X (.Call (.Name x p) (e::es) [] pos) (sj C sp dvs E t):=by
 intro pins s σ H Q I h
 refine wpAny_Call_Name_kw (oy I hg hm ?_ hdb)
 refine PySem.W.callWith_K (h₀:=X.base) I.ok.mod.kin M.kp (thn (ha pos pins s σ H _ I h) fun us s1 ⟨vs,H1,I1,r,q⟩=>⟨I1.kIn,?_⟩) he hpl
 exact uX M F hr hb hd hx I1 r q
end
def PK (X:Cx) (kws:List Keyword) (t:TA):Prop:=
 ∀ (pos:Pos) (pins:List (Addr×Obj)) (s:Shared) (σ:St) (H:Hp) (Q:List V→Hp→Prop),Inv X pins σ H s→t σ H Q→wpAny (model X.prog X.w) X.A (evalAll ((backToKw pos (keywordEach kws X.env)).map (·.2))) (AP X pins σ Q) X.xe s
section
variable {X:Cx} {CX:CXT} {k:Nat} {f C:Addr} {fd:FuncData} {ps ks:List Str} {sp:Sp} {E:XK} {x m:Str} {p pos apos kpos:Pos} {e o:Expr} {es:List Expr} {kws:List Keyword} {te ta:TE} {t tk:TA} {nm:Option Str}
structure GB (K:PySem.W.Frag) (fd:FuncData) (ps ks:List Str) (g:List Value→List Value→List Value) (gV:List V→List V→List V):Prop where
 to:∀ (s:Shared) (us ws:List Value),K.In s.heap→(g us ws).length=ps.length→BindsTo s fd ⟨us,ks.zip ws⟩ (ps.zip (g us ws))
 rel:∀ {vs:List V} {us:List Value} {zs:List V} {ws:List Value},Vals vs us→Vals zs ws→Vals (gV vs zs) (g us ws)
def Ff (sp:Sp) (gV:List V→List V→List V) (E:XK) (t tk:TA):TE:=fun σ H Q=>t σ H fun vs H1=>tk σ H1 fun zs H2=>sp (gV vs zs) H2 Q E
variable {g:List Value→List Value→List Value} {gV:List V→List V→List V}
end
structure aL (N P:List Str) (sc:Scope):Prop where
 kind:sc.kind=.function
 co:sc.isCoroutine=false
 gen:sc.isGenerator=false
 nd:N.Nodup
 pre:N.take P.length=P
 par:∀ x∈P,sc.names.lookup x=some .local∨sc.names.lookup x=some .cell
 nofree:∀ y∈sc.names,y.2≠.free
theorem nN {kindOf:Str→Option NameKind} {x:Str}:∀ {binds:List (Str×Value)} {m:Str→Option Value},(∀ v,(x,v)∉binds)→bindL kindOf binds m x=m x
 | [],_,_=>rfl
 | (n,v)::r,m,h=>by
  unfold bindL
  rw[nN fun w hw=>h w (List.mem_cons_of_mem _ hw)]
  split
  ·have:x≠n:=by rintro rfl;exact h v List.mem_cons_self
   simp [this]
  ·rfl
theorem nP {kindOf:Str→Option NameKind} {x:Str}:∀ {binds:List (Str×Value)} {m:Str→Option Value},(∀ v,(x,v)∉binds)→bindC kindOf binds m x=m x
 | [],_,_=>rfl
 | (n,v)::r,m,h=>by
  unfold bindC
  rw[nP fun w hw=>h w (List.mem_cons_of_mem _ hw)]
  split
  ·rfl
  ·have:x≠n:=by rintro rfl;exact h v List.mem_cons_self
   simp [this]
theorem nO {kindOf:Str→Option NameKind} {x:Str} {v:Value}:∀ {P:List Str} {vs:List Value} {i:Nat} {m:Str→Option Value},P.Nodup→P[i]?=some x→vs[i]?=some v→kindOf x=some .local→
  bindL kindOf (P.zip vs) m x=some v
 | [],_,_,_,_,h,_,_=>by simp at h
 | _::_,[],_,_,_,_,h,_=>by simp at h
 | p::P,w::vs,0,m,nd,h1,h2,hk=>by
  simp at h1 h2;subst h1;subst h2
  show bindL kindOf ((p,w)::P.zip vs) m p=_
  unfold bindL
  rw[nN fun v hv=>(List.nodup_cons.mp nd).1 (List.of_mem_zip hv).1,if_pos hk]
  simp
 | p::P,w::vs,i + 1,m,nd,h1,h2,hk=>by
  show bindL kindOf ((p,w)::P.zip vs) m x=_
  unfold bindL
  exact nO (i:=i) (List.nodup_cons.mp nd).2 (by simpa using h1) (by simpa using h2) hk
theorem nQ {kindOf:Str→Option NameKind} {x:Str} {v:Value}:∀ {P:List Str} {vs:List Value} {i:Nat} {m:Str→Option Value},P.Nodup→P[i]?=some x→vs[i]?=some v→kindOf x≠some .local→
  bindC kindOf (P.zip vs) m x=some v
 | [],_,_,_,_,h,_,_=>by simp at h
 | _::_,[],_,_,_,_,h,_=>by simp at h
 | p::P,w::vs,0,m,nd,h1,h2,hk=>by
  simp at h1 h2;subst h1;subst h2
  show bindC kindOf ((p,w)::P.zip vs) m p=_
  unfold bindC
  rw[nP fun v hv=>(List.nodup_cons.mp nd).1 (List.of_mem_zip hv).1,if_neg hk]
  simp
 | p::P,w::vs,i + 1,m,nd,h1,h2,hk=>by
  show bindC kindOf ((p,w)::P.zip vs) m x=_
  unfold bindC
  exact nQ (i:=i) (List.nodup_cons.mp nd).2 (by simpa using h1) (by simpa using h2) hk
def start (N:List Str) (vs:List V):St:=vs.map some++List.replicate (N.length - vs.length) none
def qa (CX:CXT) (P:Program) (w:World) (K:PySem.W.Frag) (mg:Str→Option Value) (base:Heap) (N:List Str) (qual:Str) (scope:Scope) (f:Addr) (cd:Value) (A:Around) (outer:List Env) (s:Shared) (H:Hp) (E:XK):Cx where
 prog:=P
 w:=w
 K:=K
 mg:=mg
 base:=base
 A:=A.deeper (envOfC qual scope s.heap.objs.size f cd)
 N:=N
 s₀:=s
 H₀:=H
 env:=envOfC qual scope s.heap.objs.size f cd
 outer:=outer
 stack:=envOfC qual scope s.heap.objs.size f cd::outer
 ex:=[]
 calm:=true
 fn:=fun _=>true
 pn:=[]
 xe:=fun e s'=>wpAny (model P w) (A.deeper (envOfC qual scope s.heap.objs.size f cd)) (leaving (envOfC qual scope s.heap.objs.size f cd) e) (fun _ s''=>CX outer H s E e s'') (fun e' s''=>CX outer H s E e' s'') s'
theorem qe {sc:Scope} {n:Nat} {x:Str} (h:sc.names.lookup x=some .cell):∃ c,(cellsFrom n sc.names []).lookup x=some c:=by
 have q:=PySem.W.cellsFrom_some sc.names n [] (.inl h)
 exact Option.isSome_iff_exists.mp q
theorem ug {CX:CXT} {P:Program} {w:World} {K:PySem.W.Frag} {mg:Str→Option Value} {base:Heap} {N ps:List Str} {qual:Str} {scope:Scope} {f:Addr} {cd:Value} {A:Around} {outer:List Env} {s s1:Shared} {H:Hp} {E:XK} {us:List Value} {vs:List V}
  (S:aL N ps scope) (hd:A.handled=none) (e0:r9 P w K mg base A outer s H) (hl:vs.length=ps.length) (r:Vals vs us)
  (x:InCallC s s.heap.objs.size (bindL (envOfC qual scope s.heap.objs.size f cd).kindOf (ps.zip us) fun _=>none) (cellsFrom (s.heap.objs.size + 1) scope.names []) (bindC (envOfC qual scope s.heap.objs.size f cd).kindOf (ps.zip us) fun _=>none) s1) :
  Inv (qa CX P w K mg base N qual scope f cd A outer s H E) [] (start N vs) H s1:=by
 have hpl:ps.length≤N.length:=by have:=congrArg List.length S.pre;rw[List.length_take] at this;omega
 obtain⟨h1,tk,rfl,hk⟩:=x.done
 have noA:∀ b:Addr,b∉(qa CX P w K mg base N qual scope f cd A outer s H E).ex:=fun b z=>absurd (show b∈([]:List Addr) from z) (by simp)
 refine⟨⟨e0.mod,S.kind,rfl,rfl,Nat.le_refl _,fun y z c h1 h2=>?_,fun y hy=>?_,fun y c _ h=>?_,fun _=>hd,Around.frames_deeper e0.frames,.inr ⟨rfl,rfl⟩,fun b z=>absurd z (noA b),e0.bs,e0.bsz,fun b _ _=>noA b,fun b z=>absurd z (noA b),e0.kd,e0.frf⟩,
  rfl,e0.bare,Un.kept hk,⟨_,x.toInCall.ns,fun i y v h1 h2 h3=>?_⟩,fun y c h=>⟨_,x.cell y c h⟩,e0.hok.fresh (Nat.le_refl _),fun y c h=>?_,fun p hp=>absurd (show p∈([]:List (Addr×Obj)) from hp) (by simp),e0.hok.kept hk,?_⟩
 ·exact name_of_addr x.apart (PySem.mem_of_lookup h1) (PySem.mem_of_lookup h2)
 ·have hy:scope.names.lookup y=some .cell∨scope.names.lookup y=some .free:=hy
  rcases hy with hy | hy
  ·exact qe hy
  ·exact absurd rfl (S.nofree _ (PySem.mem_of_lookup hy))
 ·exact Nat.le_of_lt (x.above y c (PySem.mem_of_lookup h))
 ·have hi:i < vs.length:=by
   unfold start at h2
   by_cases hi:i < vs.length
   ·exact hi
   ·rw[List.getElem?_append_right (by simpa using hi)] at h2
    rw[List.getElem?_replicate] at h2
    split at h2 <;> cases h2
  have ha:vs[i]?=some v:=by
   unfold start at h2
   rw[List.getElem?_append_left (by simpa using hi),List.getElem?_map] at h2
   cases e:vs[i]? with
   | none=>rw[e] at h2;cases h2
   | some a=>rw[e] at h2;cases h2;rfl
  obtain⟨u,hu,rv⟩:=r.get ha
  have hp:ps[i]?=some y:=by
   rw[← S.pre,List.getElem?_take_of_lt (by omega)];exact h1
  have ndP:ps.Nodup:=by rw[← S.pre];exact S.nd.sublist (List.take_sublist _ _)
  refine⟨u,rv,?_⟩
  rcases S.par y (List.mem_of_getElem? hp) with k | k
  ·exact .inl ⟨k,nO ndP hp hu k⟩
  ·obtain⟨c,e⟩:=qe (n:=s.heap.objs.size + 1) k
   refine .inr ⟨.inl k,c,e,?_⟩
   have q:=x.cell y c e
   rw[nQ ndP hp hu (by show scope.names.lookup y≠_;rw[k];decide)] at q
   exact q
 ·exact e0.hok.fresh (Nat.le_of_lt (x.above y c (PySem.mem_of_lookup h)))
 ·unfold start
  show _=N.length
  rw[List.length_append,List.length_map,List.length_replicate]
  omega
theorem D6 {CX:CXT} {P:Program} {w:World} {K:PySem.W.Frag} {mg:Str→Option Value} {base:Heap} {k:Nat} {f:Addr} {name qual:Str} {params:Arguments} {body:List Stmt} {scope:Scope} {dV kV doc pm cdv ct oc:Value} {an od:Option Addr}
  {osl:Array (Option Value)} {N ps:List Str} {sp:Sp} (lk:K.lookup f=some ⟨oc,od,.func (PySem.W.fnOf name qual params body scope dV kV doc pm an cdv ct),osl⟩) (hcd:PySem.W.codeIn K cdv qual=true) (S:aL N ps scope)
  (len:∀ vs H Q E,sp vs H Q E→vs.length=ps.length)
  (hbody:∀ (A:Around) (outer:List Env) (s:Shared) (H:Hp) (vs:List V) (Q:VK) (E:XK),cJ k (A.deeper (envOfC qual scope s.heap.objs.size f cdv))→sp vs H Q E→
   ∃ t,PSs (qa CX P w K mg base N qual scope f cdv A outer s H E) body t∧t { nx:=fun _ H'=>Q .non H',rt:=Q } (start N vs) H) :
  bK P w K mg base CX (k + 1) f (PySem.W.fnOf name qual params body scope dV kV doc pm an cdv ct) ps sp:=by
 refine⟨len,fun A outer s H args us vs Q E hr e0 hb r hsp=>?_⟩
 have hl:=len _ _ _ _ hsp
 have KX:K.In s.heap:=e0.mod.kin.keeps fun b o e=>(e0.bs b o e).1
 have lim:s.heap.NoLimit:=e0.mod.nolimit.keeps fun b o e=>(e0.bs b o e).1
 have hkind:∀ y∈ps.zip us,scope.names.lookup y.1=some .local∨(scope.names.lookup y.1=some .cell∧((cellsFrom (s.heap.objs.size + 1) scope.names []).lookup y.1).isSome=true):=fun ⟨n,v⟩ hy=>by
  rcases S.par n (List.of_mem_zip hy).1 with q | q
  ·exact .inl q
  ·exact .inr ⟨q,PySem.W.cellsFrom_some _ _ _ (.inl q)⟩
 refine codeAny_call_function hr.depth (KX _ _ lk) rfl S.co S.gen rfl (PySem.W.codeRec_of KX hcd) (hb _ _ _ _ ?_)
 refine wpAny_newFunctionEnv_cells S.kind hkind fun env he s1 x=>?_
 subst he
 refine⟨lim.keeps x.toInCall.keep,codeAny_func ?_⟩
 obtain⟨t,ht,hq⟩:=hbody A outer s H vs Q E (hr.deeper _) hsp
 have I:Inv (qa CX P w K mg base N qual scope f cdv A outer s H E) [] (start N vs) H s1:=ug S hr.hd e0 hl r x
 refine wpAny_mono (ht [] s1 (start N vs) H _ I hq) (fun fl s' hs=>?_) fun e s' hs=>hs
 have fin:∀ {σ':St} {H':Hp} {v:V} {u:Value},Inv (qa CX P w K mg base N qual scope f cdv A outer s H E) [] σ' H' s'→RelV v u→Q v H'→CE outer P w H s Q u s':=
  fun {σ' H' v u} J rv q=>⟨v,H',J.os,J.bare,J.base,J.hok,rv,q⟩
 cases fl with
 | ret u=>
  obtain⟨v,σ',H',J,rv,q⟩:=hs
  exact fin J rv q
 | next=>
  obtain⟨σ',H',J,q⟩:=hs
  exact fin (v:=V.non) (u:=Value.none) J rfl q
 | brk=>
  obtain⟨_,_,_,q⟩:=hs
  exact False.elim q
 | cont=>
  obtain⟨_,_,_,q⟩:=hs
  exact False.elim q
end L2
namespace L2
open PySem PySem.Spec PyProof.Rows
section
variable {X:Cx} {x:Str} {p pos:Pos} {e:Expr} {es:List Expr} {t:TA} {id T:String} {r:List V→Hp→VK→Prop}
def tCB (r:List V→Hp→VK→Prop) (t:TA):TE:=fun σ H Q=>t σ H fun vs H1=>r vs H1 Q
theorem vC (hc:cy X (.builtin id) r) (hg:Gl X x) (hm:X.mg x=none) (hv:bootBuiltins x=some (.builtin id)) (ha:PA X (e::es) t) (hn:x≠"__name__":=by decide) (hdb:(x == ("__debug__":Str))=false:=by decide)
  (he:starEach (e::es) X.env=(false,eval e X.env)::starEach es X.env:=by rfl) (hpl:(backTo pos (starEach es X.env)).any (·.1)=false:=by rfl):PE X (.Call (.Name x p) (e::es) [] pos) (tCB r t):=by
 intro pins s σ H Q I h
 refine wpAny_Call_Name_kw (md I hg hm hv ?_ hn hdb)
 exact PyProof.Rows.callWith_builtin1 (thn (ha pos pins s σ H _ I h) fun us s1 ⟨vs,H1,I1,r1,q1⟩=>hc pins s1 σ H1 vs us Q I1 r1 q1) he hpl
theorem t8 (hc:cy X (.type T) r) (hg:Gl X x) (hm:X.mg x=none) (hv:bootBuiltins x=some (.type T)) (ha:PA X (e::es) t) (hn:x≠"__name__":=by decide) (hdb:(x == ("__debug__":Str))=false:=by decide)
  (he:starEach (e::es) X.env=(false,eval e X.env)::starEach es X.env:=by rfl) (hpl:(backTo pos (starEach es X.env)).any (·.1)=false:=by rfl):PE X (.Call (.Name x p) (e::es) [] pos) (tCB r t):=by
 intro pins s σ H Q I h
 refine wpAny_Call_Name_kw (md I hg hm hv ?_ hn hdb)
 exact PyProof.Rows.callWith_type1 (thn (ha pos pins s σ H _ I h) fun us s1 ⟨vs,H1,I1,r1,q1⟩=>hc pins s1 σ H1 vs us Q I1 r1 q1) he hpl
end
end L2
namespace HT
open PySem PyProof.Rows
def lexLt:List Int→List Int→Bool
 | [],[]=>false
 | [],_::_=>true
 | _::_,[]=>false
 | x::xs,y::ys=>if x=y then lexLt xs ys else decide (x < y)
section
open PySem.SeqAt
open PySem.AutoSeq1 (wpAny_loadPart')
open PySem.MeetsSeq PySem.MeetsSeq2 PySem.MeetsSeq3
end
section
variable {prog:Program} {w:World} {A:Around} {E:Value→Shared→Prop} {s:Shared}
def sIx (n d:Nat):Option Int→Nat
 | none=>d
 | some v=>if v < 0 then (v + (n:Int)).toNat else min v.toNat n
end
end HT
namespace L2
open PySem PySem.Spec PyProof.Rows
abbrev TO:=St→Hp→(Option Int→Hp→Prop)→Prop
def PO (X:Cx) (e:Option Expr) (t:TO):Prop:=
 ∀ (pins:List (Addr×Obj)) (s:Shared) (σ:St) (H:Hp) (Q:Option Int→Hp→Prop),Inv X pins σ H s→t σ H Q→
  wpAny (model X.prog X.w) X.A (evalPart e X.env) (fun u s'=>∃ o H',Inv X pins σ H' s'∧IsPart u o∧Q o H') X.xe s
def EJ:TO:=fun _ H Q=>Q none H
def GI (t:TE):TO:=fun σ H Q=>t σ H fun x H1=>∃ i,x=.int i∧Q (some i) H1
section
variable {X:Cx} {e:Expr} {te:TE} {lo hi:Option Expr} {tl th:TO} {pos p2:Pos}
def SlR (X:Cx) (r:V→Option Int→Option Int→Hp→VK→Prop):Prop:=
 ∀ (pins:List (Addr×Obj)) (s:Shared) (σ:St) (H:Hp) (x:V) (v vl vu:Value) (lo hi:Option Int) (sl:Addr) (Q:VK),Inv X pins σ H s→RelV x v→s.heap.IsSliceOf sl vl vu .none→IsPart vl lo→IsPart vu hi→r x lo hi H Q→
  ∃ T id,typeLookup (.type T) "__getitem__"=pure (some (.builtin id))∧s.TypeIs v T∧wpAny (model X.prog X.w) X.A (getItem v (.ref sl)) (EP X pins σ Q) X.xe s
def tSl (r:V→Option Int→Option Int→Hp→VK→Prop) (te:TE) (tl th:TO):TE:=fun σ H Q=>te σ H fun x H1=>tl σ H1 fun l H2=>th σ H2 fun u H3=>r x l u H3 Q
def wM (xs:List V) (lo hi:Option Int):List V:=(xs.drop (HT.sIx xs.length 0 lo)).take (HT.sIx xs.length xs.length hi - HT.sIx xs.length 0 lo)
theorem qb (xs:List V) (lo hi:Option Int):(wM xs lo hi).length≤xs.length:=by
 unfold wM
 rw[List.length_take,List.length_drop]
 omega
def Ht (K:PySem.W.Frag):V→Option Int→Option Int→Hp→VK→Prop:=fun x lo hi H Q=>∃ a xs,x=.ref a∧SqT K H a xs∧
 ¬ (HT.sIx xs.length 0 lo=0∧HT.sIx xs.length xs.length hi=xs.length)∧∀ p,H p=none→Q (.ref p) (upd H p (.tup (wM xs lo hi)))
def Hx (K:PySem.W.Frag):R2:=fun x y H Q=>∃ a b ns ms,x=.ref a∧y=.ref b∧SqT K H a (ns.map V.int)∧SqT K H b (ms.map V.int)∧Q (.bl (HT.lexLt ns ms)) H
def GX (K:PySem.W.Frag):R2:=fun x y H Q=>∃ a b xs ys,x=.ref a∧y=.ref b∧SqT K H a xs∧SqT K H b ys∧xs≠[]∧xs.length + ys.length≤sizeLine∧
 (ys=[]→Q (.ref a) H)∧(ys≠[]→∀ p,H p=none→Q (.ref p) (upd H p (.tup (xs++ys))))
end
end L2
namespace L2
open PySem PySem.Spec PyProof.Rows
def ixN (n:Nat) (i:Int):Option Nat:=if 0≤i then (if i < n then some i.toNat else none) else if -(n:Int)≤i then some (i + n).toNat else none
def atI {α:Type} (xs:List α) (i:Int):Option α:=(ixN xs.length i).bind fun j=>xs[j]?
theorem sR {n:Nat} {i:Int} {j:Nat} (h:ixN n i=some j):seqIndex? i n=some j∧j < n∧-(n:Int)≤i∧i < n:=by
 unfold ixN at h
 by_cases h0:0≤i
 ·rw[if_pos h0] at h
  by_cases h1:i < n
  ·rw[if_pos h1] at h
   have e:i.toNat=j:=Option.some.inj h
   exact⟨by rw[seqIndex_of h0 h1,e],by omega,by omega,h1⟩
  ·rw[if_neg h1] at h;cases h
 ·rw[if_neg h0] at h
  by_cases h1:-(n:Int)≤i
  ·rw[if_pos h1] at h
   have e:(i + n).toNat=j:=Option.some.inj h
   exact⟨by rw[seqIndex_neg (by omega) h1,e],by omega,h1,by omega⟩
  ·rw[if_neg h1] at h;cases h
theorem oX {α:Type} {xs:List α} {i:Int} {v:α} (h:atI xs i=some v):∃ j,seqIndex? i xs.length=some j∧xs[j]?=some v∧j < xs.length∧-(xs.length:Int)≤i∧i < xs.length:=by
 unfold atI at h
 cases e:ixN xs.length i with
 | none=>rw[e] at h;cases h
 | some j=>
  rw[e] at h
  obtain⟨h1,h2,h3,h4⟩:=sR e
  exact⟨j,h1,h,h2,h3,h4⟩
theorem zb {α:Type} {xs:List α} {j:Nat} {v:α} (h:xs[j]?=some v):atI xs (j:Int)=some v:=by
 have hj:j < xs.length:=(List.getElem?_eq_some_iff.mp h).1
 have e:ixN xs.length (j:Int)=some j:=by
  unfold ixN
  rw[if_pos (by omega),if_pos (by omega)];simp
 unfold atI;rw[e];exact h
def tK (b:Expr):Prop:=∀ o i,subscripted b false o i=operate [o,i] (getItem o i)
def IxR (X:Cx) (r:R2):Prop:=
 ∀ (value slice:Expr) (pins:List (Addr×Obj)) (s:Shared) (σ:St) (H:Hp) (x y:V) (v u:Value) (Q:VK),Inv X pins σ H s→RelV x v→RelV y u→r x y H Q→
  subscripted slice false v u=operate [v,u] (getItem v u)→wpAny (model X.prog X.w) X.A (subscriptTail value slice v u) (EP X pins σ Q) X.xe s
def MtR (X:Cx) (id:String) (r:V→List V→Hp→VK→Prop):Prop:=
 ∀ (pins:List (Addr×Obj)) (s:Shared) (σ:St) (H:Hp) (x:V) (xs:List V) (v:Value) (us:List Value) (Q:VK),Inv X pins σ H s→RelV x v→Vals xs us→r x xs H Q→
  wpAny (model X.prog X.w) X.A (call (.builtin id) (v::us)) (EP X pins σ Q) X.xe s
section
variable {X:Cx} {a b:Expr} {ta tb:TE} {pos:Pos}
theorem IxR.or {r r':R2} (h:IxR X r) (h':IxR X r'):IxR X (fun x y H Q=>r x y H Q∨r' x y H Q):=by
 intro value slice pins s σ H x y v u Q I rx ry q hs
 rcases q with q | q
 ·exact h value slice pins s σ H x y v u Q I rx ry q hs
 ·exact h' value slice pins s σ H x y v u Q I rx ry q hs
theorem Dl {r:R2} (hr:IxR X r) (ha:PE X a ta) (hb:PE X b tb) (hs:tK b):PE X (.Subscript a b pos) (tOp r ta tb):=by
 intro pins s σ H Q I h
 exact Subscript_ (Cr ha hb I h fun v u s2 x y H2 I2 rx ry q=>hr a b pins s2 σ H2 x y v u Q I2 rx ry q (hs _ _))
def Dd (K:PySem.W.Frag):R2:=fun x y H Q=>∃ p xs i v,x=.ref p∧y=.int i∧SqL K H p xs∧atI xs i=some v∧Q v H
def C_ (K:PySem.W.Frag):R2:=fun x y H Q=>∃ p xs i v,x=.ref p∧y=.int i∧SqT K H p xs∧atI xs i=some v∧Q v H
def Dc:R2:=fun x y H Q=>∃ z i c,x=.str z∧y=.int i∧z.length≤sizeLine∧atI z.cps.toList i=some c∧Q (.str ⟨#[c]⟩) H
theorem yC:IxR X (Dd X.K):=by
 intro value slice pins s σ H x y v u Q I rx ry h hs
 obtain⟨p,xs,i,z,rfl,rfl,hq,he,q⟩:=h
 cases rx
 obtain⟨t,rfl⟩:=ry
 obtain⟨its,r,pl,hz⟩:=I.list hq
 obtain⟨j,h1,h2,h3,h4,h5⟩:=oX he
 obtain⟨w,ew,rw'⟩:=r.get h2
 have hl:=r.length
 have hn:=jl
 have fin:EP X pins σ Q w s:=⟨z,H,I,rw',q⟩
 by_cases h0:0≤i
 ·have hj:i.toNat=j:=by
   rw[seqIndex_of h0 h5] at h1
   exact Option.some.inj h1
  exact item_listR pl.isList h0 (by omega) (by rw[hj];simpa using ew) fin hs
 ·have hj:(i + (its.toArray.size:Int)).toNat=j:=by
   rw[seqIndex_neg (by omega) h4] at h1
   rw[List.size_toArray,← hl]
   exact Option.some.inj h1
  exact subscriptTail_builtinR (x:=w) pl.isList.typeIs slot_list_getitem.lookup
   (wpAny_getItem_list_neg (Q:=fun r s'=>r=w∧EP X pins σ Q r s') pl.isList (by omega) (by rw[List.size_toArray] <;> omega) (by omega) (by rw[hj];simpa using ew) ⟨rfl,fin⟩) hs
theorem BJ:IxR X (C_ X.K):=by
 intro value slice pins s σ H x y v u Q I rx ry h hs
 obtain⟨p,xs,i,z,rfl,rfl,hq,he,q⟩:=h
 cases rx
 obtain⟨t,rfl⟩:=ry
 obtain⟨its,r,pl,hz⟩:=I.tuple hq
 obtain⟨j,h1,h2,h3,h4,h5⟩:=oX he
 obtain⟨w,ew,rw'⟩:=r.get h2
 have hl:=r.length
 have hn:=jl
 have fin:EP X pins σ Q w s:=⟨z,H,I,rw',q⟩
 exact subscriptTail_builtinR (x:=w) pl.typeIs slot_tuple_getitem.lookup
  (getItem_tuple (j:=j) (Q:=fun r s'=>r=w∧EP X pins σ Q r s') pl (by omega) (by omega) (by rw[List.size_toArray,← hl];exact h1) (by simpa using ew) ⟨rfl,fin⟩) hs
theorem BK:IxR X Dc:=by
 intro value slice pins s σ H x y v u Q I rx ry h hs
 obtain⟨z,i,c,rfl,rfl,hz,he,q⟩:=h
 obtain⟨t,rfl⟩:=rx
 obtain⟨t',rfl⟩:=ry
 obtain⟨j,h1,h2,h3,h4,h5⟩:=oX he
 have hl:z.cps.toList.length=z.length:=by simp [Str.length]
 rw[hl] at h1 h4 h5
 have hn:=jl
 exact tail_any (typeIs_str s z t) slot_str_getitem.lookup (getItem_str (c:=c) (by
  have e1:decide (i < -(2 ^ 63:Int))=false:=decide_eq_false (by omega)
  have e2:decide (i≥2 ^ 63)=false:=decide_eq_false (by omega)
  rw[e1,e2,Bool.or_false]) (by rw[h1];simpa using h2) ⟨.str ⟨#[c]⟩,H,I.tok _,⟨_,rfl⟩,q⟩) hs
def rIx (K:PySem.W.Frag):R2:=fun x y H Q=>Dd K x y H Q∨C_ K x y H Q∨Dc x y H Q
theorem BL:IxR X (rIx X.K):=yC.or (BJ.or BK)
theorem qX (its:List Value) (n j:Nat) (u:Value):Obj.mapSeq (·.setIfInBounds j u) { cls:=.type "list",data:=.seq its.toArray n }={ cls:=.type "list",data:=.seq (its.set j u).toArray n }:=by
 simp [Obj.mapSeq]
theorem Inv.lst {pins:List (Addr×Obj)} {σ:St} {H:Hp} {s:Shared} {p:Addr} {xs:List V} (I:Inv X pins σ H s) (h:H p=some (.lst xs)) :
  ∃ (its:List Value) (n:Nat),Vals xs its∧s.heap.get? p=some { cls:=.type "list",data:=.seq its.toArray n }∧xs.length≤sizeLine:=by
 obtain⟨z,its,n,r,e⟩:=I.hok p _ h
 exact⟨its,n,r,e,z⟩
theorem Inv.BB {pins:List (Addr×Obj)} {σ:St} {H:Hp} {s:Shared} {p:Addr} {xs ys:List V} {its its':List Value} {n n':Nat} {f:Obj→Obj} (I:Inv X pins σ H s) (h:H p=some (.lst xs))
  (ho:s.heap.get? p=some { cls:=.type "list",data:=.seq its.toArray n }) (hf:f { cls:=.type "list",data:=.seq its.toArray n }={ cls:=.type "list",data:=.seq its'.toArray n' }) (r:Vals ys its') (hz:ys.length≤sizeLine) (t:Nat) :
  Inv X pins σ (upd H p (.lst ys)) { s with heap:=s.heap.update p f,toks:=t }:=by
 have e:(s.heap.update p f).get? p=some { cls:=.type "list",data:=.seq its'.toArray n' }:=by
  rw[Heap.get?_update_self f ho (by rw[hf] <;> rfl),hf]
 refine I.write (x:=p) (e:=p) (by rw[h];trivial) (.inl rfl) (fun b u hb q=>(Heap.get?_update_other _ _ (Ne.symm hb)).trans q) ⟨_,e⟩ ?_
 exact⟨hz,its',n',r,e⟩
def pw:V→V→V→Hp→(Hp→Prop)→Prop:=fun o i v H Q=>∃ p xs k j,o=.ref p∧i=.int k∧H p=some (.lst xs)∧ixN xs.length k=some j∧Q (upd H p (.lst (xs.set j v)))
theorem set_list:EG X pw:=by
 intro pins s σ H o i v ov iv u Q I ro ri rv h
 obtain⟨p,xs,k,j,rfl,rfl,hp,hj,q⟩:=h
 cases ro
 obtain⟨t,rfl⟩:=ri
 obtain⟨its,n,r,ho,hz⟩:=I.lst hp
 obtain⟨h1,h2,h3,h4⟩:=sR hj
 have hl:=r.length
 have hn:=jl
 have I':Inv X pins σ (upd H p (.lst (xs.set j v))) { s with heap:=s.heap.update p (Obj.mapSeq (·.setIfInBounds j u)) }:=
  I.BB hp ho (qX its n j u) (r.set rv j) (by rw[List.length_set];exact hz) s.toks
 by_cases h0:0≤k
 ·have hk:k.toNat=j:=by
   rw[seqIndex_of h0 h4] at h1
   exact Option.some.inj h1
  exact PySem.W.ki_setAt ho h0 (by omega) (by rw[List.size_toArray,← hl];exact h4) (by rw[hk];exact⟨_,I',q⟩)
 ·have hk:(k + (its.toArray.size:Int)).toNat=j:=by
   rw[seqIndex_neg (by omega) h3] at h1
   rw[List.size_toArray,← hl]
   exact Option.some.inj h1
  exact PySem.W.ki_setBack ho (by omega) (by rw[List.size_toArray,← hl];exact h3) (by omega) (by rw[hk];exact⟨_,I',q⟩)
theorem nY (lo hi:Option Int) (n:Nat):(sliceBounds lo hi none n).1=((HT.sIx n 0 lo:Nat):Int)∧(sliceBounds lo hi none n).2.1=((HT.sIx n n hi:Nat):Int)∧(sliceBounds lo hi none n).2.2=1:=by
 refine⟨?_,?_,rfl⟩
 ·cases lo with
  | none=>simp [sliceBounds,HT.sIx]
  | some i=>
   simp only[sliceBounds,HT.sIx,Option.getD_none,show (1:Int) > 0 by decide,if_true]
   by_cases h:i < 0
   ·simp only[h,if_true] <;> omega
   ·simp only[h,if_false] <;> omega
 ·cases hi with
  | none=>simp [sliceBounds,HT.sIx]
  | some i=>
   simp only[sliceBounds,HT.sIx,Option.getD_none,show (1:Int) > 0 by decide,if_true]
   by_cases h:i < 0
   ·simp only[h,if_true] <;> omega
   ·simp only[h,if_false] <;> omega
theorem mG (its:List Value) (lo hi:Option Int):slicePick its.toArray lo hi none=((its.drop (HT.sIx its.length 0 lo)).take (HT.sIx its.length its.length hi - HT.sIx its.length 0 lo)).toArray:=by
 obtain⟨h1,h2,h3⟩:=nY lo hi its.toArray.size
 unfold slicePick
 rw[h1,h2,h3]
 simp only[sliceRange_one,pick_run,List.size_toArray] <;> rfl
def Fq (K:PySem.W.Frag):V→Option Int→Option Int→Hp→VK→Prop:=fun x lo hi H Q=>∃ a xs,x=.ref a∧SqL K H a xs∧∀ p,H p=none→Q (.ref p) (upd H p (.lst (wM xs lo hi)))
theorem EM:SlR X (Fq X.K):=by
 intro pins s σ H x v vl vu lo hi sl Q I rx hs pl pu h
 obtain⟨a,xs,rfl,hx,q⟩:=h
 cases rx
 obtain⟨its,r,ht,hz⟩:=I.list hx
 have hlen:=r.length
 refine⟨"list",_,slot_list_getitem.lookup,ht.isList.typeIs,?_⟩
 refine wpAny_getItem_list_slice ht.isList hs pl pu .none (by simp) ?_ (by rw[List.size_toArray] <;> omega)
 rw[mG,← hlen]
 refine⟨.ref s.heap.objs.size,_,I.laid (t':=s.toks) (o:=.lst (wM xs lo hi)) (fun b ob q=>Heap.get?_push_of_some _ q) (Nat.le_refl _) ?_,rfl,q _ (I.hok.fresh (Nat.le_refl _))⟩
 exact⟨Nat.le_trans (qb xs lo hi) hz,_,0,(r.drop (HT.sIx xs.length 0 lo)).take (HT.sIx xs.length xs.length hi - HT.sIx xs.length 0 lo),Heap.get?_push_size _ rfl⟩
def zZ:V→Bool
 | .non=>true
 | .bl _=>true
 | .int _=>true
 | .str _=>true
 | _=>false
def eqV:V→V→Bool
 | .non,.non=>true
 | .bl a,.bl b=>a == b
 | .bl a,.int b=>(if a then 1 else 0) == b
 | .int a,.bl b=>a == (if b then 1 else 0)
 | .int a,.int b=>a == b
 | .str a,.str b=>a == b
 | _,_=>false
def eqU (x:V) (u:Value):Bool:=match u with
 | .none=>eqV .non x
 | .bool b=>eqV (.bl b) x
 | .int i _=>eqV (.int i) x
 | .str z _=>eqV (.str z) x
 | _=>false
def inV (x:V) (xs:List V):Bool:=xs.any fun y=>eqV y x
def rIn (K:PySem.W.Frag) (neg:Bool):R2:=fun x y H Q=>∃ p xs,y=.ref p∧(SqL K H p xs∨SqT K H p xs)∧zZ x=true∧xs.all zZ=true∧Q (.bl (if neg then !inV x xs else inV x xs)) H
theorem oV:cy X (.builtin "len") (fun xs H Q=>∃ p ys,xs=[.ref p]∧(SqL X.K H p ys∨SqT X.K H p ys)∧Q (.int ys.length) H):=by
 intro pins s σ H xs us Q I r h
 obtain⟨p,ys,rfl,hq,q⟩:=h
 obtain⟨u,rfl,rx⟩:=vals1 r
 cases rx
 have hn:=jl
 rcases hq with hq | hq
 ·obtain⟨its,r',pl,hz⟩:=I.list hq
  have hlen:=r'.length
  exact Calls.call_len_list pl.isList (by simp only[List.size_toArray] <;> omega) ⟨.int ys.length,H,I.tok _,⟨s.toks + 1,by rw[List.size_toArray,hlen]⟩,q⟩
 ·obtain⟨its,r',pl,hz⟩:=I.tuple hq
  have hlen:=r'.length
  exact len_tuple pl (by simp only[List.size_toArray] <;> omega) ⟨.int ys.length,H,I.tok _,⟨s.toks + 1,by rw[List.size_toArray,hlen]⟩,q⟩
theorem oU:cy X (.builtin "len") (fun xs H Q=>∃ z,xs=[.str z]∧z.length≤sizeLine∧Q (.int z.length) H):=by
 intro pins s σ H xs us Q I r h
 obtain⟨z,rfl,hz,q⟩:=h
 obtain⟨u,rfl,t,rfl⟩:=vals1 r
 have hn:=jl
 exact len_str (by omega) ⟨.int z.length,H,I.tok _,⟨_,rfl⟩,q⟩
theorem cy.or {f:Value} {r r':List V→Hp→VK→Prop} (h:cy X f r) (h':cy X f r'):cy X f (fun xs H Q=>r xs H Q∨r' xs H Q):=by
 intro pins s σ H xs us Q I rs q
 rcases q with q | q
 ·exact h pins s σ H xs us Q I rs q
 ·exact h' pins s σ H xs us Q I rs q
theorem oR:cy X (.type "list") (fun xs H Q=>∃ p ys,xs=[.ref p]∧(SqL X.K H p ys∨SqT X.K H p ys)∧∀ l,H l=none→Q (.ref l) (upd H l (.lst ys))):=by
 intro pins s σ H xs us Q I r h
 obtain⟨p,ys,rfl,hq,q⟩:=h
 obtain⟨u,rfl,rx⟩:=vals1 r
 cases rx
 have fin:∀ (its:List Value),Vals ys its→ys.length≤sizeLine→∀ (h':Heap) (c':Nat),(∀ b o',s.heap.get? b=some o'→h'.get? b=some o')→
   h'.get? s.heap.objs.size=some { cls:=.type "list",dict:=none,data:=.seq its.toArray c',slots:=#[] }→EP X pins σ Q (.ref s.heap.objs.size) { s with heap:=h' }:=fun its r' hz h' c' kp e=>
  ⟨.ref s.heap.objs.size,_,I.laid (t':=s.toks) kp (Nat.le_refl _) (show cT X.prog X.w _ h' _ (.lst ys) from ⟨hz,its,c',r',e⟩),rfl,q _ (I.hok.fresh (Nat.le_refl _))⟩
 rcases hq with hq | hq
 ·obtain⟨its,r',pl,hz⟩:=I.list hq
  have hlen:=r'.length
  obtain⟨o,ho,hc,n,hd⟩:=pl.isList
  exact call_list_seq p (.inl rfl) ho hc hd (fun h' c' kp e=>fin its r' hz h' c' kp e) (by simp only[List.size_toArray] <;> omega)
 ·obtain⟨its,r',pl,hz⟩:=I.tuple hq
  have hlen:=r'.length
  obtain⟨o,ho,hc,n,hd⟩:=pl
  exact call_list_seq p (.inr rfl) ho hc hd (fun h' c' kp e=>fin its r' hz h' c' kp e) (by simp only[List.size_toArray] <;> omega)
theorem mS:cy X (.type "tuple") (fun xs H Q=>∃ p ys,xs=[.ref p]∧((SqL X.K H p ys∧∀ l,H l=none→Q (.ref l) (upd H l (.tup ys)))∨(SqT X.K H p ys∧Q (.ref p) H))):=by
 intro pins s σ H xs us Q I r h
 obtain⟨p,ys,rfl,h⟩:=h
 obtain⟨u,rfl,rx⟩:=vals1 r
 cases rx
 rcases h with ⟨hq,q⟩ | ⟨hq,q⟩
 ·obtain⟨its,r',pl,hz⟩:=I.list hq
  have hlen:=r'.length
  refine call_tuple_list pl.isList (fun h' kp=>?_) (by simp only[List.size_toArray] <;> omega)
  have I1:Inv X pins σ H { s with heap:=h' }:=I.kept (t':=s.toks) kp
  have I2:Inv X pins σ (upd H h'.objs.size (.tup ys)) { s with heap:=h'.push { cls:=.type "tuple",data:=.seq its.toArray } }:=
   I1.laid (t':=s.toks) (fun b o e=>Heap.get?_push_of_some _ e) (Nat.le_refl _) (show cT X.prog X.w _ _ _ (.tup ys) from ⟨hz,its,r',IsTup.new _ _⟩)
  exact⟨.ref h'.objs.size,_,I2,rfl,q _ (I1.hok.fresh (Nat.le_refl _))⟩
 ·obtain⟨its,r',pl,hz⟩:=I.tuple hq
  exact call_tuple_same pl ⟨.ref p,H,I,rfl,q⟩
def tyV (K:PySem.W.Frag) (T:String) (x:V) (H:Hp):Prop:=match x with
 | .str _=>T="str"
 | .int _=>T="int"
 | .ref p=>(T="list"∧∃ xs,SqL K H p xs)∨(T="tuple"∧∃ o,K.lookup p=some o∧o.cls=.type "tuple"∧o.dict=none)∨
   (T="dict"∧((∃ kvs,H p=some (.dK kvs))∨∃ kvs,H p=some (.dT kvs)))∨(T="set"∧∃ S n,H p=some (.set S n))
 | _=>False
theorem uI {pins:List (Addr×Obj)} {σ:St} {H:Hp} {s:Shared} {T:String} {x:V} {v:Value} (I:Inv X pins σ H s) (r:RelV x v) (ty:tyV X.K T x H) :
  s.TypeIs v T∧∀ a,v=.ref a→∃ ob,s.heap.get? a=some ob∧ob.dict=none:=by
 cases x with
 | str z=>
  obtain⟨t,rfl⟩:=r
  cases (show T="str" from ty)
  exact⟨typeIs_str s z t,fun _ e=>nomatch e⟩
 | int i=>
  obtain⟨t,rfl⟩:=r
  cases (show T="int" from ty)
  exact⟨typeIs_int s i t,fun _ e=>nomatch e⟩
 | ref p=>
  cases r
  rcases ty with ⟨rfl,xs,hq⟩ | ⟨rfl,o,hk,hc,hd⟩ | ⟨rfl,hk⟩ | ⟨rfl,S,n,hk⟩
  ·obtain⟨its,_,pl,_⟩:=I.list hq
   refine⟨pl.isList.typeIs,fun a e=>?_⟩
   cases e
   obtain⟨o,n,e,c,hd,_⟩:=pl
   exact⟨o,e,hd⟩
  ·refine⟨⟨o,I.kIn p o hk,hc⟩,fun a e=>?_⟩
   cases e
   exact⟨o,I.kIn _ o hk,hd⟩
  ·have z:∃ o,s.heap.get? p=some o∧o.ExactDict:=by
    rcases hk with ⟨kvs,hk⟩ | ⟨kvs,hk⟩
    ·obtain⟨_,_,_,_,o,_,_,e,ex,_⟩:=I.hok p _ hk
     exact⟨o,e,ex⟩
    ·obtain⟨_,_,_,_,o,_,_,e,ex,_⟩:=I.hok p _ hk
     exact⟨o,e,ex⟩
   obtain⟨o,e,ex⟩:=z
   refine⟨⟨o,e,ex.1⟩,fun a e2=>?_⟩
   cases e2
   exact⟨o,e,ex.2.1⟩
  ·obtain⟨o,_,_,_,e,ex,_⟩:=I.hok p _ hk
   refine⟨⟨o,e,ex.1⟩,fun a e2=>?_⟩
   cases e2
   exact⟨o,e,ex.2.1⟩
 | _=>exact False.elim ty
def tR (K:PySem.W.Frag) (T:String) (r:V→List V→Hp→VK→Prop) (to:TE):TE:=fun σ H Q=>to σ H fun x H1=>tyV K T x H1∧r x [] H1 Q
def tBM (K:PySem.W.Frag) (T:String) (r:V→List V→Hp→VK→Prop) (to:TE) (t:TA):TE:=fun σ H Q=>to σ H fun x H1=>tyV K T x H1∧t σ H1 fun xs H2=>r x xs H2 Q
variable {o e:Expr} {es:List Expr} {to:TE} {t:TA} {name:Str} {apos cpos:Pos} {T id:String} {r:V→List V→Hp→VK→Prop}
theorem qP (pa:PlainAttrs T) (slot:Slot T name id) (hty:typeOf (.builtin id)=pure (.type "method_descriptor")) (hm:MtR X id r) (ho:PE X o to)
  (hbase:attributeBase o name X.env (eval o X.env)=eval o X.env:=by rfl) (hline:(apos.endLine == cpos.line)=true:=by rfl):PE X (.Call (.Attribute o name apos) [] [] cpos) (tR X.K T r to):=by
 intro pins s σ H Q I h
 refine wpAny_Call_method0_late hbase hline (thn (ho pins s σ H _ I h) fun v s1 ⟨x,H1,I1,r1,ty,q1⟩=>?_)
 obtain⟨h1,h2⟩:=uI I1 r1 ty
 exact⟨T,id,pa,slot,hty,h1,h2,Calls.callWith_builtin rfl (PySem.evalArgs_none (hm pins s1 σ H1 x [] v [] Q I1 r1 .nil q1))⟩
theorem sH (pa:PlainAttrs T) (slot:Slot T name id) (hty:typeOf (.builtin id)=pure (.type "method_descriptor")) (hm:MtR X id r) (ho:PE X o to) (ha:PA X (e::es) t)
  (hbase:attributeBase o name X.env (eval o X.env)=eval o X.env:=by rfl)
  (hfew:((backTo cpos (starEach (e::es) X.env)).all (fun x=>!x.1) && (backToKw cpos (keywordEach [] X.env)).all (fun x=>x.1.isSome)
   && decide ((e::es).length + ([]:List Keyword).length + (if ([]:List Keyword).isEmpty then 0 else 1) < 30))=true:=by rfl)
  (hline:(apos.endLine == cpos.line)=true:=by rfl) (hs:starEach (e::es) X.env=(false,eval e X.env)::starEach es X.env:=by rfl) (hplain:(backTo cpos (starEach es X.env)).any (·.1)=false:=by rfl) :
  PE X (.Call (.Attribute o name apos) (e::es) [] cpos) (tBM X.K T r to t):=by
 intro pins s σ H Q I h
 refine wpAny_Call_method_late hbase hfew hline rfl (thn (ho pins s σ H _ I h) fun v s1 ⟨x,H1,I1,r1,ty,q1⟩=>?_)
 obtain⟨h1,h2⟩:=uI I1 r1 ty
 refine⟨T,id,pa,slot,hty,h1,h2,?_⟩
 have hA:=ha cpos pins s1 σ H1 _ I1 q1
 rw[hs] at hA ⊢
 refine Calls.callWith_builtin (by show (false || (backTo cpos (starEach es X.env)).any (·.1))=false;rw[hplain] <;> rfl) (Calls.evalArgs_plain ?_)
 exact thn hA fun us s2 ⟨vs,H2,I2,r2,q2⟩=>hm pins s2 σ H2 x vs v us Q I2 r1 r2 q2
end
end L2
namespace L2
open PySem PySem.Spec PyProof.Rows
def MtM (X:Cx) (id:String) (r:V→List V→Hp→VK→Prop):Prop:=
 ∀ (pins:List (Addr×Obj)) (s:Shared) (σ:St) (H:Hp) (x:V) (xs:List V) (v:Value) (us:List Value) (Q:VK),Inv X pins σ H s→RelV x v→Vals xs us→r x xs H Q→
  wpAny (model X.prog X.w) X.A (call (.builtin id) (v::us)) (EP X pins σ Q) X.xe s
theorem Vals.one:∀ {x:V} {us:List Value},Vals [x] us→∃ u,us=[u]∧RelV x u
 | _,_,.cons r .nil=>⟨_,rfl,r⟩
theorem Vals.zero:∀ {us:List Value},Vals [] us→us=[]
 | _,.nil=>rfl
theorem Vals.dropLast {xs:List V} {us:List Value} (h:Vals xs us):Vals xs.dropLast us.dropLast:=by
 induction h with
 | nil=>exact .nil
 | cons r t ih=>
  cases t with
  | nil=>exact .nil
  | cons q t'=>exact .cons r ih
theorem Vals.eraseIdx:∀ {xs:List V} {us:List Value} (i:Nat),Vals xs us→Vals (xs.eraseIdx i) (us.eraseIdx i)
 | _,_,_,.nil=>.nil
 | _,_,0,.cons _ t=>t
 | _,_,i + 1,.cons r t=>.cons r (Vals.eraseIdx i t)
theorem Vals.reverse {xs:List V} {us:List Value} (h:Vals xs us):Vals xs.reverse us.reverse:=by
 induction h with
 | nil=>exact .nil
 | cons r t ih=>rw[List.reverse_cons,List.reverse_cons];exact Vals.append ih (.cons r .nil)
theorem rJ {α:Type} (l:List α):l.eraseIdx (l.length - 1)=l.dropLast:=by
 induction l with
 | nil=>rfl
 | cons a r ih=>
  cases r with
  | nil=>rfl
  | cons b r=>
   have e:(a::b::r).length - 1=((b::r).length - 1) + 1:=by
    have h1:(a::b::r).length=r.length + 2:=rfl
    have h2:(b::r).length=r.length + 1:=rfl
    omega
   rw[e,List.eraseIdx_cons_succ,ih]
   all_goals rfl
theorem nA {α:Type}:∀ (l:List α) (i:Nat),(l.eraseIdx i).length≤l.length
 | [],_=>Nat.le_refl _
 | _::_,0=>Nat.le_succ _
 | _::r,i + 1=>Nat.succ_le_succ (nA r i)
section
variable {X:Cx} {pins:List (Addr×Obj)} {σ:St} {H:Hp} {s:Shared} {l b:Addr} {xs ys zs:List V}
theorem Inv.q_ {its its':List Value} {n:Nat} {f:Array Value→Array Value} {t':Nat} (I:Inv X pins σ H s) (hH:H l=some (.lst xs))
  (e:s.heap.get? l=some { cls:=.type "list",data:=.seq its.toArray n }) (hf:f its.toArray=its'.toArray) (hv:Vals ys its') (hz:ys.length≤sizeLine) :
  Inv X pins σ (upd H l (.lst ys)) { s with heap:=s.heap.update l (Obj.mapSeq f),toks:=t' }:=by
 have q:=PySem.IsL.update e f
 rw[hf] at q
 refine I.write (x:=l) (e:=l) (by rw[hH];exact trivial) (.inl rfl) (fun b' u hb hu=>(Heap.get?_update_other s.heap (Obj.mapSeq f) (Ne.symm hb)).trans hu) ⟨_,q⟩ ?_
 exact⟨hz,its',_,hv,q⟩
theorem Inv.FH {its:List Value} {t':Nat} (I:Inv X pins σ H s) (hv:Vals ys its) (hz:ys.length≤sizeLine) :
  Inv X pins σ (upd H s.heap.objs.size (.lst ys)) { s with heap:=s.heap.push { cls:=.type "list",data:=.seq its.toArray },toks:=t' }:=
 I.laid (fun _ _ q=>Heap.get?_push_of_some _ q) (Nat.le_refl _) ⟨hz,its,0,hv,Heap.get?_push_size _ rfl⟩
theorem Inv.fresh (I:Inv X pins σ H s):H s.heap.objs.size=none:=I.hok.fresh (Nat.le_refl _)
theorem Inv.mQ (I:Inv X pins σ H s) (hH:H l=some (.lst xs)):xs.length≤sizeLine∧∃ (its:List Value) (n:Nat),Vals xs its∧xs.length=its.length∧s.heap.get? l=some { cls:=.type "list",data:=.seq its.toArray n }:=by
 obtain⟨z,its,n,r,e⟩:=I.hok l _ hH
 exact⟨z,its,n,r,r.length,e⟩
theorem vN {n:Nat} (h:n≤sizeLine):Builtin.List.listTooLong n=false:=by
 unfold Builtin.List.listTooLong
 exact decide_eq_false (by omega)
end
section
variable {X:Cx}
def kZ:V→List V→Hp→VK→Prop:=fun x vs H Q=>∃ l xs y,x=.ref l∧vs=[y]∧H l=some (.lst xs)∧xs.length < sizeLine∧Q .non (upd H l (.lst (xs++[y])))
theorem nz:MtM X "list.append" kZ:=by
 intro pins s σ H x vs v us Q I rx rv h
 obtain⟨l,xs,y,rfl,rfl,hH,hz,q⟩:=h
 cases rx
 obtain⟨u,rfl,ru⟩:=rv.one
 obtain⟨z,its,n,r,hl,e⟩:=I.mQ hH
 refine call_meets F.slot_list_append ⟨_,e,rfl⟩ F.entry_list_append (F.args_list_append_2 _ _) (PySem.list_append l its.toArray n u (by rw[List.size_toArray];omega)) ⟨e,?_⟩
 refine⟨.non,_,I.q_ (its':=its++[u]) hH e (by simp) (r.append (.cons ru .nil)) ?_,rfl,q⟩
 rw[List.length_append,List.length_singleton]
 omega
def xT:V→List V→Hp→VK→Prop:=fun x vs H Q=>∃ l b xs zs,x=.ref l∧vs=[.ref b]∧H l=some (.lst xs)∧H b=some (.lst zs)∧xs.length + zs.length≤sizeLine∧Q .non (upd H l (.lst (xs++zs)))
theorem CD:MtM X "list.extend" xT:=by
 intro pins s σ H x vs v us Q I rx rv h
 obtain⟨l,b,xs,zs,rfl,rfl,hH,hB,hz,q⟩:=h
 cases rx
 obtain⟨u,rfl,ru⟩:=rv.one
 cases ru
 obtain⟨z,its,n,r,hl,e⟩:=I.mQ hH
 obtain⟨z2,its2,n2,r2,hl2,e2⟩:=I.mQ hB
 have hsz:its.toArray.size + its2.toArray.size≤sizeLine:=by rw[List.size_toArray,List.size_toArray];omega
 have hlong:¬ (!its.toArray.isEmpty && Builtin.List.listTooLong (its.toArray.size + its2.toArray.size))=true:=by
  rw[vN hsz,Bool.and_false]
  exact Bool.false_ne_true
 refine call_meets F.slot_list_extend ⟨_,e,rfl⟩ F.entry_list_extend (F.args_list_extend_2 _ _)
  (AutoSeq1.list_extend_list_list_0 l its.toArray n b its2.toArray n2 hlong (by rw[List.size_toArray];omega) (by omega)) ⟨e,e2,?_⟩
 refine⟨.non,_,I.q_ (its':=its++its2) hH e (by simp) (r.append r2) ?_,rfl,q⟩
 rw[List.length_append]
 omega
def C9:V→List V→Hp→VK→Prop:=fun x vs H Q=>∃ l xs y,x=.ref l∧vs=[]∧H l=some (.lst xs)∧xs[xs.length - 1]?=some y∧Q y (upd H l (.lst xs.dropLast))
theorem Bx:MtM X "list.pop" C9:=by
 intro pins s σ H x vs v us Q I rx rv h
 obtain⟨l,xs,y,rfl,rfl,hH,hy,q⟩:=h
 cases rx
 have hus:=rv.zero
 subst hus
 obtain⟨z,its,n,r,hl,e⟩:=I.mQ hH
 obtain⟨u,hu,ru⟩:=r.get hy
 have hy':its.toArray[its.toArray.size - 1]?=some u:=by
  show its.toArray[its.length - 1]?=some u
  rw[← Array.getElem?_toList,← hl]
  exact hu
 refine call_meets F.slot_list_pop ⟨_,e,rfl⟩ F.entry_list_pop (F.args_list_pop_1 _) (MeetsSeq.list_pop_last l its.toArray n u hy' (by rw[List.size_toArray];omega)) ⟨e,?_⟩
 refine⟨y,_,I.q_ (its':=its.dropLast) hH e ?_ r.dropLast ?_,ru,q⟩
 ·show its.toArray.eraseIdxIfInBounds (its.toArray.size - 1)=its.dropLast.toArray
  rw[List.size_toArray,List.eraseIdxIfInBounds_toArray,rJ]
 ·rw[List.length_dropLast]
  omega
def vg:V→List V→Hp→VK→Prop:=fun x vs H Q=>∃ l xs i k y,x=.ref l∧vs=[.int i]∧H l=some (.lst xs)∧-(2 ^ 63)≤i∧i < 2 ^ 63∧seqIndex? i xs.length=some k∧xs[k]?=some y∧Q y (upd H l (.lst (xs.eraseIdx k)))
theorem vR:MtM X "list.pop" vg:=by
 intro pins s σ H x vs v us Q I rx rv h
 obtain⟨l,xs,i,k,y,rfl,rfl,hH,h1,h2,hk,hy,q⟩:=h
 cases rx
 obtain⟨u,rfl,ru⟩:=rv.one
 obtain⟨t,rfl⟩:=ru
 obtain⟨z,its,n,r,hl,e⟩:=I.mQ hH
 obtain⟨w,hw,rw'⟩:=r.get hy
 refine call_meets F.slot_list_pop ⟨_,e,rfl⟩ F.entry_list_pop (F.args_list_pop_2 _ _)
  (MeetsSeq.list_pop_at l its.toArray n i t k w (fitsIndex_both h1 h2) (by rw[List.size_toArray,← hl];exact hk) (by rw[← Array.getElem?_toList];exact hw) (by rw[List.size_toArray];omega)) ⟨e,?_⟩
 refine⟨y,_,I.q_ (its':=its.eraseIdx k) hH e ?_ (r.eraseIdx k) ?_,rw',q⟩
 ·show its.toArray.eraseIdxIfInBounds k=(its.eraseIdx k).toArray
  rw[List.eraseIdxIfInBounds_toArray]
 ·have:=nA xs k
  omega
def lP:V→List V→Hp→VK→Prop:=fun x vs H Q=>∃ l xs,x=.ref l∧vs=[]∧H l=some (.lst xs)∧Q .non (upd H l (.lst xs.reverse))
theorem qW:MtM X "list.reverse" lP:=by
 intro pins s σ H x vs v us Q I rx rv h
 obtain⟨l,xs,rfl,rfl,hH,q⟩:=h
 cases rx
 have hus:=rv.zero
 subst hus
 obtain⟨z,its,n,r,hl,e⟩:=I.mQ hH
 refine call_meets F.slot_list_reverse ⟨_,e,rfl⟩ F.entry_list_reverse (F.args_list_reverse_1 _) (AutoSeq1.list_reverse_list_0 l its.toArray n (by rw[List.size_toArray];omega)) ⟨e,?_⟩
 refine⟨.non,_,I.q_ (its':=its.reverse) hH e (by simp) r.reverse ?_,rfl,q⟩
 rw[List.length_reverse]
 omega
def qJ:V→List V→Hp→VK→Prop:=fun x vs H Q=>∃ l xs,x=.ref l∧vs=[]∧H l=some (.lst xs)∧Q .non (upd H l (.lst []))
theorem vS:MtM X "list.clear" qJ:=by
 intro pins s σ H x vs v us Q I rx rv h
 obtain⟨l,xs,rfl,rfl,hH,q⟩:=h
 cases rx
 have hus:=rv.zero
 subst hus
 obtain⟨z,its,n,r,hl,e⟩:=I.mQ hH
 refine call_meets F.slot_list_clear ⟨_,e,rfl⟩ F.entry_list_clear (F.args_list_clear_1 _) (AutoSeq1.list_clear_list_0 l its.toArray n (by rw[List.size_toArray];omega)) ⟨e,?_⟩
 exact⟨.non,_,I.q_ (its':=[]) (ys:=[]) hH e rfl .nil (Nat.zero_le _),rfl,q⟩
def De:R2:=fun x y H Q=>∃ l b xs zs,x=.ref l∧y=.ref b∧H l=some (.lst xs)∧H b=some (.lst zs)∧xs.length + zs.length≤sizeLine∧∀ p,H p=none→Q (.ref p) (upd H p (.lst (xs++zs)))
theorem Bl:OpR X (binaryOp .Add) De:=by
 intro pins s σ H x y v u Q I rx ry h
 obtain⟨l,b,xs,zs,rfl,rfl,hH,hB,hz,q⟩:=h
 cases rx
 cases ry
 obtain⟨z,its,n,r,hl,e⟩:=I.mQ hH
 obtain⟨z2,its2,n2,r2,hl2,e2⟩:=I.mQ hB
 refine PySem.P.add_list e e2 ?_ (by rw[List.size_toArray,List.size_toArray];omega)
 have ea:its.toArray++its2.toArray=(its++its2).toArray:=by simp
 rw[ea]
 exact⟨.ref _,_,I.FH (t':=s.toks) (r.append r2) (by rw[List.length_append];omega),rfl,q _ I.fresh⟩
def Hv:R2:=fun x y H Q=>∃ l k xs,x=.ref l∧y=.int k∧H l=some (.lst xs)∧-(2 ^ 63)≤k∧k < 2 ^ 63∧xs.length * k.toNat≤sizeLine∧
 ∀ p,H p=none→Q (.ref p) (upd H p (.lst (List.replicate k.toNat xs).flatten))
end
section
variable {prog:Program} {w:World} {A:Around} {E:Value→Shared→Prop} {s:Shared}
end
section
variable {X:Cx}
end
end L2
namespace L2
open PySem PySem.Spec PyProof.Rows
section
variable {κ:Type} [DecidableEq κ]
def tN (kvs:List (κ×V)) (k:κ):Option V:=(kvs.find? fun kv=>decide (kv.1=k)).map (·.2)
def putK (kvs:List (κ×V)) (k:κ) (v:V):List (κ×V):=
 if (kvs.any fun kv=>decide (kv.1=k))=true then kvs.map (fun kv=>if kv.1=k then (kv.1,v) else kv) else kvs++[(k,v)]
def wJ (kvs:List (κ×V)) (k:κ):List (κ×V):=kvs.filter fun kv=>decide (kv.1≠k)
end
abbrev KT (H:Hp):List (List Key×V)→List (List Key×Addr×Value)→Prop:=Paired fun p q=>p.1=q.1∧H q.2.1=some (.tup (p.1.map kV))∧RelV p.2 q.2.2
section
variable {P:Program} {w:World} {H:Hp} {h:Heap} {a:Addr}
theorem C7 {u:HO} (ok:HOk P w H h) (e:Rd H a u):cT P w H h a u:=e.ok ok
theorem Ed {kvs:List (Key×V)} (ok:HOk P w H h) (e:Rd H a (.dK kvs)):kvs.length≤sizeLine∧(a == sysModules)=false∧∃ vs,KV kvs vs∧h.DictOf (lz P w) a vs:=
 show cT P w H h a (.dK kvs) from C7 ok e
theorem z8 {kvs:List (Key×V)} (ok:HOk P w H h) (e:H a=some (.dK kvs)):kvs.length≤sizeLine∧(a == sysModules)=false∧∃ vs,KV kvs vs∧h.DictOf (lz P w) a vs:=Ed ok (.inl e)
end
def uB (H:Hp) (a:Addr) (y:V) (r:Option V):Prop:=
 (∃ kvs k,Rd H a (.dK kvs)∧y=kV k∧r=tN kvs k)∨∃ kvs k b,Rd H a (.dT kvs)∧y=.ref b∧H b=some (.tup (k.map kV))∧r=tN kvs k
def EI (H:Hp) (a:Addr) (y v:V) (H':Hp):Prop:=
 (∃ kvs k,H a=some (.dK kvs)∧y=kV k∧kvs.length < sizeLine∧H'=upd H a (.dK (putK kvs k v)))∨
 ∃ kvs k b,H a=some (.dT kvs)∧y=.ref b∧H b=some (.tup (k.map kV))∧kvs.length < sizeLine∧H'=upd H a (.dT (putK kvs k v))
section
variable {X:Cx} {pins:List (Addr×Obj)} {σ:St} {H:Hp} {s:Shared} {a:Addr} {y v:V} {u r:Value} {o:Option V} {A:Around} {E:Value→Shared→Prop}
theorem Inv.big (I:Inv X pins σ H s):sysModules < s.heap.objs.size:=by
 have h:mainGlobals < s.heap.objs.size:=(I.mod.glob.keeps I.bk).lt
 exact Nat.lt_trans (by decide) h
end
section
variable {X:Cx} {pins:List (Addr×Obj)} {σ:St} {H:Hp} {s:Shared} {a:Addr} {kvs:List (Key×V)} {k:Key} {u:Value} {A:Around} {E:Value→Shared→Prop}
end
def HQ (i:Expr):Prop:=∀ ov iv,subscripted i false ov iv=operate [ov,iv] (getItem ov iv)
def GL (td ty:TE):TE:=fun σ H Q=>td σ H fun x H1=>ty σ H1 fun y H2=>∃ a v,x=.ref a∧uB H2 a y (some v)∧Q v H2
def Hj (ty td:TE):TE:=fun σ H Q=>ty σ H fun y H1=>td σ H1 fun x H2=>∃ a o,x=.ref a∧uB H2 a y o∧Q (.bl o.isSome) H2
def EL (ty td:TE):TE:=fun σ H Q=>ty σ H fun y H1=>td σ H1 fun x H2=>∃ a o,x=.ref a∧uB H2 a y o∧Q (.bl (!o.isSome)) H2
def GQ (td ty tv:TE):TS:=fun D σ H=>tv σ H fun v H1=>td σ H1 fun x H2=>ty σ H2 fun y H3=>∃ a H4,x=.ref a∧EI H3 a y v H4∧D.nx σ H4
def GU (td ty tv:TE) (rd:V→V→Hp→VK→Prop):TS:=fun D σ H=>td σ H fun x H1=>ty σ H1 fun y H2=>∃ a v,x=.ref a∧uB H2 a y (some v)∧
 tv σ H2 fun y2 H3=>rd v y2 H3 fun z H4=>∃ H5,EI H4 a y z H5∧D.nx σ H5
def GS (td ty:TE):TS:=fun D σ H=>td σ H fun x H1=>ty σ H1 fun y H2=>∃ a kvs k,x=.ref a∧H2 a=some (.dK kvs)∧y=kV k∧(tN kvs k).isSome=true∧D.nx σ (upd H2 a (.dK (wJ kvs k)))
section
variable {X:Cx} {o i e value:Expr} {pos pos' tpos:Pos} {td ty tv:TE}
end
theorem wL {P:Program} {w:World} {H:Hp} (h:Heap) (hb:sysModules < h.objs.size):cT P w H (h.push { cls:=.type "dict",data:=.dict #[] }) h.objs.size (.dK []):=
 ⟨Nat.zero_le _,beq_eq_false_iff_ne.mpr (Ne.symm (Nat.ne_of_lt hb)),[],.nil,Heap.DictOf.new h⟩
def uN:TE:=fun _ H Q=>∀ p,H p=none→Q (.ref p) (upd H p (.dK []))
def Fb:TE:=fun _ H Q=>∀ p,H p=none→Q (.ref p) (upd H p (.dT []))
section
variable {X:Cx} {pos:Pos}
theorem vy:PE X (.Dict [] [] pos) uN:=fun pins s σ H Q I h=>
 wpAny_Dict_empty ⟨.ref s.heap.objs.size,_,I.laid (a:=s.heap.objs.size) (o:=.dK []) (t':=s.toks) (fun _ _ q=>Heap.get?_push_of_some _ q) (Nat.le_refl _) (wL s.heap I.big),rfl,h _ (I.hok.fresh (Nat.le_refl _))⟩
end
def qC:List (TE×TE)→St→Hp→(List (V×V)→Hp→Prop)→Prop
 | [],_,H,Q=>Q [] H
 | (tk,tv)::r,σ,H,Q=>tk σ H fun x H1=>tv σ H1 fun y H2=>qC r σ H2 fun ps H3=>Q ((x,y)::ps) H3
abbrev VV:List (V×V)→List (Value×Value)→Prop:=Paired fun p q=>RelV p.1 q.1∧RelV p.2 q.2
def PPs (X:Cx) (pos:Pos) (keys:List (Option Expr)) (values:List Expr) (trs:List (TE×TE)):Prop:=
 ∀ (pins:List (Addr×Obj)) (s:Shared) (σ:St) (H:Hp) (Q:List (V×V)→Hp→Prop),Inv X pins σ H s→qC trs σ H Q→
  wpAny (model X.prog X.w) X.A (evalPairs (pairTrees keys values X.env pos)) (fun vs s'=>∃ ps H',Inv X pins σ H' s'∧VV ps vs∧Q ps H') X.xe s
def Bz (kvs more:List (Key×V)):List (Key×V):=more.foldl (fun acc kv=>putK acc kv.1 kv.2) kvs
def GK (trs:List (TE×TE)):TE:=fun σ H Q=>∀ p,H p=none→qC trs σ (upd H p (.dK [])) fun ps H2=>H2 p=some (.dK [])∧∃ kvs:List (Key×V),ps=kvs.map (fun kv=>(kV kv.1,kv.2))∧kvs.length≤15∧Q (.ref p) (upd H2 p (.dK (Bz [] kvs)))
structure M1 (X:Cx) (o:Expr) (m:Str) (apos:Pos) (e:Expr) (cpos:Pos):Prop where
 base:attributeBase o m X.env (eval o X.env)=eval o X.env
 few:((backTo cpos (starEach [e] X.env)).all (fun x=>!x.1) && (backToKw cpos (keywordEach [] X.env)).all (fun x=>x.1.isSome)
  && decide (([e]:List Expr).length + ([]:List Keyword).length + (if ([]:List Keyword).isEmpty then 0 else 1) < 30))=true
 line:(apos.endLine == cpos.line)=true
 trees:backTo cpos (starEach [e] X.env)=[(false,eval e X.env)]
structure M2 (X:Cx) (o:Expr) (m:Str) (apos:Pos) (e f:Expr) (cpos:Pos):Prop where
 base:attributeBase o m X.env (eval o X.env)=eval o X.env
 few:((backTo cpos (starEach [e,f] X.env)).all (fun x=>!x.1) && (backToKw cpos (keywordEach [] X.env)).all (fun x=>x.1.isSome)
  && decide (([e,f]:List Expr).length + ([]:List Keyword).length + (if ([]:List Keyword).isEmpty then 0 else 1) < 30))=true
 line:(apos.endLine == cpos.line)=true
 trees:backTo cpos (starEach [e,f] X.env)=[(false,eval e X.env),(false,eval f X.env)]
def IsD (H:Hp) (a:Addr):Prop:=(∃ kvs,Rd H a (.dK kvs))∨∃ kvs,Rd H a (.dT kvs)
section
variable {X:Cx} {pins:List (Addr×Obj)} {σ:St} {H:Hp} {s:Shared} {a:Addr} {y d:V} {u r:Value} {o:Option V} {A:Around} {E:Value→Shared→Prop}
end
def Fd (td ty:TE):TE:=fun σ H Q=>td σ H fun x H1=>∃ a,x=.ref a∧IsD H1 a∧ty σ H1 fun y H2=>∃ o,uB H2 a y o∧Q (o.getD .non) H2
def Fc (td ty tx:TE):TE:=fun σ H Q=>td σ H fun x H1=>∃ a,x=.ref a∧IsD H1 a∧ty σ H1 fun y H2=>tx σ H2 fun z H3=>∃ o,uB H3 a y o∧Q (o.getD z) H3
def E_ (td ty:TE):TE:=fun σ H Q=>td σ H fun x H1=>∃ a,x=.ref a∧IsD H1 a∧ty σ H1 fun y H2=>∃ kvs k v,H2 a=some (.dK kvs)∧y=kV k∧tN kvs k=some v∧Q v (upd H2 a (.dK (wJ kvs k)))
def E9 (td ty tx:TE):TE:=fun σ H Q=>td σ H fun x H1=>∃ a,x=.ref a∧IsD H1 a∧ty σ H1 fun y H2=>tx σ H2 fun z H3=>∃ kvs k,H3 a=some (.dK kvs)∧y=kV k∧
 (∀ v,tN kvs k=some v→Q v (upd H3 a (.dK (wJ kvs k))))∧(tN kvs k=none→Q z H3)
section
variable {X:Cx} {o e f:Expr} {apos cpos:Pos} {td ty tx:TE}
end
section
variable {X:Cx} {pins:List (Addr×Obj)} {σ:St} {H:Hp} {s:Shared} {a:Addr} {kvs:List (Key×V)} {A:Around} {E:Value→Shared→Prop}
end
section
variable {X:Cx} {pins:List (Addr×Obj)} {σ:St} {H:Hp} {s:Shared} {a:Addr} {y:V} {u:Value} {A:Around} {E:Value→Shared→Prop}
end
end L2
namespace Att
open PySem PySem.W PySem.Calls PyProof.Rows
theorem kQ {P:Params} {h:Heap}:∀ (ns:List Int) (vs:List Value),WellAll P h vs (ns.map WData.int)→IntsAre vs ns:=by
 intro ns
 induction ns with
 | nil=>
  intro vs w
  rw[List.map_nil] at w
  cases w
  exact .nil
 | cons n ns ih=>
  intro vs w
  rw[List.map_cons] at w
  cases w with
  | cons a b=>
   cases a
   exact .cons _ _ (ih _ b)
theorem tS {l:OpenLaw} {n:Nat} (hn:l.most=some n) {P:Params} {h:Heap} {args:List WData} {vals:List Value}
  (hpre:l.row.toRowW.claim.pre args=true) (hwl:WellAll P h vals args) :
  ∃ a vs ns,vals=[Value.ref a]∧args=[WData.list (ns.map WData.int)]∧h.get? a=some { cls:=.type "list",data:=.seq vs.toArray }∧IntsAre vs ns∧ns.length≤n:=by
 have hsh:WShape.hasAll [] args [.list .int]=true:=(pre_splitW hpre).1
 have hc:l.pre.holds [] { args:=args }=true:=(pre_splitW hpre).2
 obtain⟨d,r,rfl,h1,h2⟩:=hasAllW_cons hsh
 obtain rfl:=hasAllW_nil h2
 obtain⟨xs,rfl,h3⟩:=hasW_list h1
 obtain⟨ns,rfl⟩:=items_int h3
 have hlen:ns.length≤n:=by
  unfold OpenLaw.pre at hc
  have h4:(WTm.not (.lt (.lit (.int (n:Int))) (.len (.arg 0)))).holds [] { args:=[.list (ns.map .int)] }=true:=by
   have h4:=(holds_andW hc).1
   rw[hn] at h4
   exact h4
  have h5:=condW_of h4 (w_not (w_lt w_lit (w_len_list (w_arg rfl))))
  rw[List.length_map] at h5
  refine Nat.le_of_not_lt fun q=>?_
  have q':(n:Int) < ((ns.length:Nat):Int):=by omega
  first
   | (rw[decide_eq_true q'] at h5;exact absurd h5 (by decide))
   | (simp at h5;omega)
 cases hwl with
 | cons w1 w2=>
  cases w2
  cases w1 with
  | list ho hall=>exact⟨_,_,ns,rfl,rfl,ho,kQ ns _ hall,hlen⟩
theorem t6 (l:OpenLaw) (args:List WData):l.row.toRowW.claim.post args (.bool true) args=true:=
 postW_of (r:=l.row.toRowW) (X:=(true == true))
  (show WShape.has [] (.bool true) .bool=true by first | rfl | decide | simp [WShape.has,WShape.arms,WShape.armsAll])
  (show (WTm.eq .res (.lit (.bool true))).value [] { args:=args,res:=some (.bool true),after:=args }=some (.bool (true == true)) from w_eq_bool (w_res rfl) w_lit) rfl
theorem qo {l:OpenLaw} {n:Nat} {q:Program} {loose:List Str} {XP:(Str→Option Value)→Heap→Prop} {YP:World→Heap→Prop} {d:DefRec}
  (hn:l.most=some n) (hdf:d.params.defaults=[])
  (call:∀ (w:World) (s₀ s₁:Shared) (mg mb:Str→Option Value) (fa:Addr) (o:Obj) (pm cd doc:Value) (a:Addr) (vs:List Value) (ns:List Int),
   Ground q loose [] XP w s₀ mg mb s₁.heap→YP w s₁.heap→
   s₁.heap.get? fa=some o→o.data=.func (docDef d.name d.params d.body d.scope pm cd doc)→s₁.heap.CodeRec cd d.name→mg d.name=some (.ref fa)→
   s₁.heap.get? a=some { cls:=.type "list",data:=.seq vs.toArray }→IntsAre vs ns→ns.length≤n→s₁.gens=#[]→
   codeAny (model l.prog w) callerA (.call (.ref fa) ⟨[.ref a],[]⟩) (fun r s'=>r=.ok (.ret (.bool true))∧OldK s₁.heap s'.heap∧s'.os=s₁.os∧AllBare s'.gens) s₁) :
  WalkO q loose XP YP l.row.toRowW d [] (fun f vs=>PySem.call f vs):=by
 intro w s₀ s₁ mg mb G Y fa o pm cd doc dV kV ho hd hcd hD hmg hg args vals as hpre hlay hrd hwl hlo
 obtain rfl:dV=.none:=Dflts.none hD hdf
 obtain rfl:kV=.none:=Dflts.noKw hD
 obtain⟨a,vs,ns,rfl,rfl,hobj,hints,hlen⟩:=tS hn hpre hwl
 refine enter_call (codeAny_mono (call w s₀ s₁ mg mb fa o pm cd doc a vs ns G Y ho (fd_plain hd) hcd hmg hobj hints hlen hg) fun r s' hq=>?_)
 obtain⟨rfl,h2,h3,h4⟩:=hq
 exact⟨.inl ⟨.bool true,.bool true,[],rfl,fun _=>rfl,.bool true,t6 l _,fun _=>⟨List.Pairwise.nil,fun _ hm=>(nomatch hm)⟩⟩,h2,h3,h4⟩
section
variable {prog:Program} {w:World} {A:Around} {E:Value→Shared→Prop} {s:Shared} {K:Frag}
def FE (h:Heap):Heap:={ h with objs:=#[] }
def ledger (h:Heap) (L d:Addr):List (Addr×Obj):=(List.range h.objs.size).filterMap fun a=>if a=L∨a=d then none else (h.get? a).map fun o=>(a,o)
end
end Att
namespace L2
open PySem PySem.Spec PyProof.Rows
theorem mX:∀ {vs:List Value} {ns:List Int},IntsAre vs ns→Vals (ns.map V.int) vs
 | _,_,.nil=>.nil
 | _,_,.cons n t h=>.cons ⟨t,rfl⟩ (mX h)
def CA (H:Hp):Prop:=∀ b,H b=none∨∃ o xs,H b=some (.frz o (.lst xs))
theorem v_ {P:Program} {w:World} {K:PySem.W.Frag} {mg mb:Str→Option Value} {CX:CXT} {k:Nat} {fa a:Addr} {fd:FuncData} {x:Str} {sp:Sp} {s₁:Shared} {vs:List Value} {ns:List Int}
  (KX:K.In s₁.heap) (hns:s₁.heap.Ns mainGlobals mg) (hb:s₁.heap.Ns builtinsNs mb) (hbb:∀ x:Str,x≠"__name__"→mb x=bootBuiltins x) (hlim:s₁.heap.NoLimit) (hg:s₁.gens=#[])
  (ha:s₁.heap.get? a=some { cls:=.type "list",data:=.seq vs.toArray }) (hi:IntsAre vs ns) (hl:ns.length≤sizeLine) (hr:cJ k callerA)
  (F:∀ base:Heap,K.In base→base.Ns mainGlobals mg→bK P w K mg base CX k fa fd [x] sp) (hbind:∀ (s:Shared) (u:Value),BindsTo s fd ⟨[u],[]⟩ [(x,u)])
  (hsp:∀ H:Hp,CA H→SqL K H a (ns.map V.int)→sp [.ref a] H (fun v _=>v=.bl true) fun _ _ _=>False)
  (hCX:∀ H e s',CX [] H s₁ (fun _ _ _=>False) e s'→False) :
  codeAny (model P w) callerA (.call (.ref fa) ⟨[.ref a],[]⟩) (fun r s'=>r=.ok (.ret (.bool true))∧OldK s₁.heap s'.heap∧s'.os=s₁.os∧AllBare s'.gens) s₁:=by
 have rv:=mX hi
 have lenV:=hi.length
 have core:∀ H:Hp,CA H→SqL K H a (ns.map V.int)→HOk P w H s₁.heap→(∀ b,H b≠none→b=a)→(H a≠none→K.lookup a=none)→
   codeAny (model P w) callerA (.call (.ref fa) ⟨[.ref a],[]⟩) (fun r s'=>r=.ok (.ret (.bool true))∧OldK s₁.heap s'.heap∧s'.os=s₁.os∧AllBare s'.gens) s₁:=by
  intro H hO hS hok hA hK
  have base_of:∀ {b:Addr} {o:Obj},s₁.heap.get? b=some o→H b=none→(oB s₁.heap H).get? b=some o:=fun e n=>wk e n
  have noA:∀ {b:Addr} {o:Obj} {es:Array DictEntry} {ep:Nat},s₁.heap.get? b=some o→o.data=.dict es ep→H b=none:=fun {b o es ep} e d=>by
   cases q:H b with
   | none=>rfl
   | some u=>
    have e':b=a:=hA b (by rw[q];simp)
    subst e'
    rw[ha] at e;cases e
    have d':Data.seq vs.toArray _=Data.dict es ep:=d
    cases d'
  have nsK:∀ {b:Addr} {m:Str→Option Value},s₁.heap.Ns b m→(oB s₁.heap H).Ns b m:=fun {b m} ⟨o,es,ep,e,d,r⟩=>⟨o,es,ep,base_of e (noA e d),d,r⟩
  have hKb:K.In (oB s₁.heap H):=fun b o e=>base_of (KX b o e) (by
   cases q:H b with
   | none=>rfl
   | some u=>
    have e':b=a:=hA b (by rw[q];simp)
    subst e'
    rw[hK (by rw[q];simp)] at e;cases e)
  have hM:Mod K mg (oB s₁.heap H):=⟨hKb,nsK hns,⟨mb,nsK hb,hbb⟩,let ⟨mc,h1,h2⟩:=hlim;⟨mc,nsK h1,h2⟩⟩
  have e0:r9 P w K mg (oB s₁.heap H) callerA [] s₁ H:=⟨rfl,hM,fun b o e=>yn e,Nat.le_of_eq (uh _ _),trivial,fun b hb=>absurd (show b∈([]:List Addr) from hb) (by simp),hok,.of_eq hg⟩
  refine codeAny_mono ((F _ hKb (nsK hns)).run callerA [] s₁ H ⟨[.ref a],[]⟩ [.ref a] [.ref a] _ _ hr e0 (hbind s₁ (.ref a)) (.cons rfl .nil) (hsp H hO hS)) fun r s' h=>?_
  cases r with
  | error e=>exact(hCX H e s' h).elim
  | ok fl=>
   cases fl with
   | next=>exact False.elim h
   | brk=>exact False.elim h
   | cont=>exact False.elim h
   | ret u=>
    obtain⟨v,H',os,bare,un,hok',r',q⟩:=h
    have q':v=.bl true:=q
    subst q'
    obtain rfl:u=Value.bool true:=r'
    refine⟨rfl,OldK.of_keep fun b o e=>?_,os,bare⟩
    cases q:H b with
    | none=>exact un.keep b o e q (by intro z;exact absurd (show b∈([]:List Addr) from z) (by simp)) (by simp)
    | some u=>
     rcases hO b with z | ⟨ob,xs,z⟩
     ·rw[q] at z;cases z
     ·have z2:=un.jR b ob _ z
      obtain⟨e1,_⟩:=hok b _ z
      obtain⟨e2,_⟩:=hok' b _ z2
      rw[e] at e1;cases e1
      exact e2
 cases hk:K.lookup a with
 | some o=>
  have e:=KX a o hk
  rw[ha] at e
  cases e
  refine core (fun _=>none) (fun _=>.inl rfl) (.inr ⟨_,vs.toArray,_,hk,rfl,rfl,rfl,by rw[List.size_toArray,lenV];exact hl,by simpa using rv⟩) (fun b u z=>by have z':(none:Option HO)=some u:=z;cases z') (fun b z=>absurd rfl z) fun z=>absurd rfl z
 | none=>
  refine core (fun b=>if b=a then some (.frz { cls:=.type "list",data:=.seq vs.toArray } (.lst (ns.map V.int))) else none) (fun b=>?_) (.inl (.inr ⟨{ cls:=.type "list",data:=.seq vs.toArray },if_pos rfl⟩)) (fun b u z=>?_) (fun b z=>?_) fun _=>hk
  ·by_cases hb:b=a
   ·exact .inr ⟨_,_,if_pos hb⟩
   ·exact .inl (if_neg hb)
  ·by_cases hb:b=a
   ·have z':=(if_pos hb).symm.trans z
    cases z'
    subst hb
    exact⟨ha,by rw[List.length_map];exact hl,vs,_,rv,ha⟩
   ·have z':=(if_neg hb).symm.trans z
    cases z'
  ·by_cases hb:b=a
   ·exact hb
   ·exact absurd (if_neg hb) z
end L2
namespace L2
open PySem PySem.Spec PyProof.Rows
abbrev KOf {K:PySem.W.Frag} {h:Heap} (_:K.In h):PySem.W.Frag:=K
theorem xw {l:PySem.W.OpenLaw} {n k:Nat} {q:Program} {loose:List Str} {XP:(Str→Option Value)→Heap→Prop} {YP:World→Heap→Prop} {d:DefRec} {K:Params→PySem.W.Frag} {CX:World→CXT} {sp:World→Sp} {x:Str}
  (hn:l.most=some n) (hn2:n≤sizeLine) (hdf:d.params.defaults=[]) (hr:cJ k callerA)
  (hY:∀ (w:World) (h:Heap),YP w h→(K w.params).In h)
  (F:∀ (w:World) (mg:Str→Option Value) (fa:Addr) (h:Heap),(K w.params).In h→h.Ns mainGlobals mg→mg d.name=some (.ref fa)→
   ∃ fd:FuncData,(∀ (s:Shared) (u:Value),BindsTo s fd ⟨[u],[]⟩ [(x,u)])∧
    ∀ base:Heap,(K w.params).In base→base.Ns mainGlobals mg→bK l.prog w (K w.params) mg base (CX w) k fa fd [x] (sp w))
  (hsp:∀ (w:World) (H:Hp) (a:Addr) (ns:List Int),ns.length≤n→CA H→SqL (K w.params) H a (ns.map V.int)→sp w [.ref a] H (fun v _=>v=.bl true) fun _ _ _=>False)
  (hCX:∀ (w:World) (H:Hp) (s:Shared) (e:Value) (s':Shared),CX w [] H s (fun _ _ _=>False) e s'→False) :
  PySem.W.WalkO q loose XP YP l.row.toRowW d [] (fun f vs=>PySem.call f vs):=by
 refine Att.qo hn hdf fun w s₀ s₁ mg mb fa o pm cd doc a vs ns G Y ho hd hcd hmg hobj hints hlen hg=>?_
 have KX:=hY w _ Y
 obtain⟨fd,hb,hF⟩:=F w mg fa _ KX G.T.g hmg
 exact v_ KX G.T.g G.T.b G.T.builtins G.T.nolimit hg hobj hints (Nat.le_trans hlen hn2) hr hF hb (fun H hO hS=>hsp w H a ns hlen hO hS) fun H e s'=>hCX w H s₁ e s'
end L2
namespace L2
open PySem PySem.Spec PyProof.Rows
def inClass (s:Stmt) (j:Nat):Stmt:=match s with
 | .ClassDef _ _ _ body _ _ _ _ _ _ _=>body.getD j (.Pass ⟨0,0,0,0⟩)
 | _=>.Pass ⟨0,0,0,0⟩
def aq (s:Stmt):Arguments:=match s with
 | .FunctionDef _ a _ _ _ _ _ _ _ _=>a
 | _=>{ posonlyargs:=[],args:=[],vararg:=none,kwonlyargs:=[],kw_defaults:=[],kwarg:=none,defaults:=[] }
def ao (s:Stmt):List Stmt:=match s with
 | .FunctionDef _ _ b _ _ _ _ _ _ _=>b
 | _=>[]
def ae (s:Stmt):Scope:=match s with
 | .FunctionDef _ _ _ _ _ _ sc _ _ _=>sc
 | _=>{ kind:=.function,names:=[],isGenerator:=false,isCoroutine:=false }
abbrev CX0:CXT:=fun _ _ _ _ _ _=>False
abbrev E0:XK:=fun _ _ _=>False
theorem m_ {X:Cx}:Passes CX0 X E0:=fun _ _ _ _ _ _ _ h=>h.elim
structure Fun (K:PySem.W.Frag) (x qual:Str) (st:Stmt) (f:Addr) (fd:FuncData):Prop where
 ex:∃ (oc:Value) (od:Option Addr) (kV doc pm:Value) (an:Option Addr) (cdv ct:Value) (osl:Array (Option Value)),
  fd=PySem.W.fnOf x qual (aq st) (ao st) (ae st) .none kV doc pm an cdv ct∧K.lookup f=some ⟨oc,od,.func fd,osl⟩∧PySem.W.codeIn K cdv qual=true
 kp:PySem.W.keepIn K (.ref f)=true
section
variable {P:Program} {w:World} {K:PySem.W.Frag} {mg:Str→Option Value} {base:Heap}
theorem Fun.ok {x qual:Str} {st:Stmt} {f:Addr} {fd:FuncData} {N ps:List Str} {k:Nat} {sp:Sp} (F:Fun K x qual st f fd) (S:aL N ps (ae st)) (len:∀ vs H Q E,sp vs H Q E→vs.length=ps.length)
  (hbody:∀ (cdv:Value) (A:Around) (outer:List Env) (s:Shared) (H:Hp) (vs:List V) (Q:VK) (E:XK),cJ k (A.deeper (envOfC qual (ae st) s.heap.objs.size f cdv))→sp vs H Q E→
   ∃ t,PSs (qa CX0 P w K mg base N qual (ae st) f cdv A outer s H E).nox (ao st) t∧t { nx:=fun _ H'=>Q .non H',rt:=Q } (start N vs) H):bK P w K mg base CX0 (k + 1) f fd ps sp:=by
 obtain⟨oc,od,kV,doc,pm,an,cdv,ct,osl,rfl,lk,hcd⟩:=F.ex
 refine D6 lk hcd S len fun A outer s H vs Q E hr hsp=>?_
 obtain⟨t,h,q⟩:=hbody cdv A outer s H vs Q E hr hsp
 exact⟨t,h.nox,q⟩
theorem Fun.binds {x qual:Str} {st:Stmt} {f:Addr} {fd:FuncData} {ps:List Str} (F:Fun K x qual st f fd)
  (h:∀ (kV doc pm:Value) (an:Option Addr) (cdv ct:Value) (us:List Value),us.length=ps.length→bindArgs (PySem.W.fnOf x qual (aq st) (ao st) (ae st) .none kV doc pm an cdv ct) ⟨us,[]⟩=pure (ps.zip us)):Binds K fd ps []:=by
 obtain⟨oc,od,kV,doc,pm,an,cdv,ct,osl,rfl,lk,hcd⟩:=F.ex
 exact .all (h kV doc pm an cdv ct)
theorem aA {x qual:Str} {st:Stmt} {f:Addr} {oc:Value} {od an:Option Addr} {osl:Array (Option Value)} {kV doc pm cdv ct:Value} (l:K.lookup f=some ⟨oc,od,.func (PySem.W.fnOf x qual (aq st) (ao st) (ae st) .none kV doc pm an cdv ct),osl⟩)
  (c:PySem.W.codeIn K cdv qual=true) (k:PySem.W.keepIn K (.ref f)=true):Fun K x qual st f (PySem.W.fnOf x qual (aq st) (ao st) (ae st) .none kV doc pm an cdv ct):=⟨⟨oc,od,kV,doc,pm,an,cdv,ct,osl,rfl,l,c⟩,k⟩
end
section
variable {X:Cx}
end
theorem we {A B:Prop} (h:B):if false=true then A else B:=by
 rw[if_neg Bool.false_ne_true]
 exact h
theorem wc {A B:Prop} (h:A):if true=true then A else B:=by
 rw[if_pos rfl]
 exact h
def aE (H H':Hp):Prop:=∀ b o,H b=some o→H' b=some o
theorem aE.refl (H:Hp):aE H H:=fun _ _ h=>h
theorem aE.trans {H H1 H2:Hp} (a:aE H H1) (b:aE H1 H2):aE H H2:=fun c o h=>b c o (a c o h)
theorem aE.seq {K:PySem.W.Frag} {H H':Hp} {a:Addr} {xs:List V} (e:aE H H') (h:SqL K H a xs):SqL K H' a xs:=by
 rcases h with (h | ⟨o,h⟩) | h
 ·exact .inl (.inl (e _ _ h))
 ·exact .inl (.inr ⟨o,e _ _ h⟩)
 ·exact .inr h
section
variable {κ:Type} [DecidableEq κ]
end
end L2
namespace L2
open PySem PySem.Spec PyProof.Rows
def takes (cells:List (Str×Addr)):List (Str×NameKind)→List (Str×Addr)→List (Str×Addr)
 | [],acc=>acc
 | (n,k)::r,acc=>takes cells r (if k=NameKind.free then (n,(cells.lookup n).getD 0)::acc else acc)
theorem mR {sc:Scope} {env:Env} (h:∀ y∈sc.names,y.2=.free→∃ c,env.cells.lookup y.1=some c):closureFor sc env=pure (takes env.cells sc.names []):=by
 have go:∀ (l:List (Str×NameKind)) (acc:List (Str×Addr)),(∀ y∈l,y.2=.free→∃ c,env.cells.lookup y.1=some c)→
   (forIn l acc (fun (x:Str×NameKind) (cs:List (Str×Addr))=>match x with
    | (name,kind)=>if (kind == NameKind.free)=true then do let c ← cellOf env name;pure (ForInStep.yield ((name,c)::cs)) else pure (ForInStep.yield cs)):Sem (List (Str×Addr)))=pure (takes env.cells l acc):=by
  intro l
  induction l with
  | nil=>intro acc _;rfl
  | cons x l ih=>
   intro acc hl
   obtain⟨n,k⟩:=x
   rw[List.forIn_cons]
   by_cases hk:k=NameKind.free
   ·subst hk
    obtain⟨c,hc⟩:=hl (n,.free) List.mem_cons_self rfl
    have hc':env.cells.lookup n=some c:=hc
    have e1:cellOf env n=pure c:=by unfold cellOf;rw[hc']
    have e2:takes env.cells ((n,NameKind.free)::l) acc=takes env.cells l ((n,c)::acc):=by
     show takes env.cells l (if NameKind.free=NameKind.free then (n,(env.cells.lookup n).getD 0)::acc else acc)=_
     rw[if_pos rfl,hc']
     rfl
    rw[e2,← ih ((n,c)::acc) fun y hy=>hl y (List.mem_cons_of_mem _ hy)]
    show ((if (NameKind.free == NameKind.free)=true then (do let c ← cellOf env n;pure (ForInStep.yield ((n,c)::acc))) else pure (ForInStep.yield acc)) >>= _)=_
    rw[if_pos (by decide),e1,pure_bind,pure_bind]
   ·have e2:takes env.cells ((n,k)::l) acc=takes env.cells l acc:=by
     show takes env.cells l (if k=NameKind.free then _ else acc)=_
     rw[if_neg hk]
    have hb:(k == NameKind.free)=false:=by simpa using hk
    rw[e2,← ih acc fun y hy=>hl y (List.mem_cons_of_mem _ hy)]
    show ((if (k == NameKind.free)=true then _ else pure (ForInStep.yield acc)) >>= _)=_
    rw[hb,if_neg Bool.false_ne_true,pure_bind]
 have:=go sc.names [] h
 unfold closureFor
 first
  | exact(congrArg (fun z=>z >>= fun cs=>pure cs) this).trans (pure_bind _ _)
  | exact this
  | simpa using this
theorem mY {cells:List (Str×Addr)} {n:Str} {c:Addr}:∀ (names:List (Str×NameKind)) (acc:List (Str×Addr)),(takes cells names acc).lookup n=some c→
  acc.lookup n=some c∨((n,NameKind.free)∈names∧c=(cells.lookup n).getD 0)
 | [],_,h=>.inl h
 | (m,k)::r,acc,h=>by
  rcases mY r _ h with q | ⟨q1,q2⟩
  ·by_cases hk:k=NameKind.free
   ·rw[if_pos hk] at q
    subst hk
    by_cases e:n=m
    ·subst e
     rw[List.lookup_cons,beq_self_eq_true] at q
     exact .inr ⟨List.mem_cons_self,(Option.some.inj q).symm⟩
    ·have:(n == m)=false:=by simpa using e
     rw[List.lookup_cons,this] at q
     exact .inl q
   ·rw[if_neg hk] at q
    exact .inl q
  ·exact .inr ⟨List.mem_cons_of_mem _ q1,q2⟩
theorem mZ {cells:List (Str×Addr)} {n:Str}:∀ (names:List (Str×NameKind)) (acc:List (Str×Addr)),(acc.lookup n).isSome=true→((takes cells names acc).lookup n).isSome=true
 | [],_,h=>h
 | (m,k)::r,acc,h=>by
  refine mZ r _ ?_
  by_cases hk:k=NameKind.free
  ·rw[if_pos hk]
   cases e:n == m with
   | true=>rw[List.lookup_cons,e];rfl
   | false=>rw[List.lookup_cons,e];exact h
  ·rw[if_neg hk];exact h
theorem j5 {cells:List (Str×Addr)} {n:Str}:∀ (names:List (Str×NameKind)) (acc:List (Str×Addr)),(n,NameKind.free)∈names→((takes cells names acc).lookup n).isSome=true
 | [],_,h=>by simp at h
 | (m,k)::r,acc,h=>by
  rcases List.mem_cons.mp h with e | h
  ·cases e
   refine mZ r _ ?_
   rw[if_pos rfl,List.lookup_cons,beq_self_eq_true]
   rfl
  ·exact j5 r _ h
structure Blk (N:List Str) (osc sc:Scope) (Nc:List Str) (fr:List (Option Nat)):Prop where
 kind:sc.kind=.function
 nocell:∀ y∈sc.names,y.2≠.cell
 free:∀ y∈sc.names,y.2=.free→osc.names.lookup y.1=some .cell∨osc.names.lookup y.1=some .free
 locs:∀ y∈sc.names,y.2=.local→sc.names.lookup y.1=some .local
 nd:Nc.Nodup
 len:Nc.length=fr.length
 whence:∀ p∈Nc.zip fr,(p.2.all fun j=>decide (N[j]?=some p.1) && decide (sc.names.lookup p.1=some .free))=true
abbrev bJ (X:Cx) (sc:Scope) (Nc:List Str) (s₀:Shared) (H₀:Hp) (C:Addr) (ex:List Addr) (pn:List (Addr×Obj)):Cx where
 prog:=X.prog
 w:=X.w
 K:=X.K
 mg:=X.mg
 base:=X.base
 A:=X.A
 N:=Nc
 s₀:=s₀
 H₀:=H₀
 env:=compEnvC sc (takes X.env.cells sc.names []) C X.env
 outer:=X.stack
 stack:=X.stack
 ex:=ex
 fn:=fun _=>false
 calm:=X.calm
 pn:=pn
 xe:=fun _ _=>False
def iL (fr:List (Option Nat)) (σ:St):St:=fr.map fun o=>o.bind fun j=>(σ[j]?).join
def An (J:It) (g:TG) (te:TE) (σ0:St) (H1:Hp) (Q:VK):Prop:=
 ∃ W:Nat→Nat→List V→St→Hp→Prop,(∃ m,W 0 m [] σ0 H1)∧∀ i m ys σc H,W i m ys σc H→ys.length < sizeLine∧
  ((J.stop i H∧∀ l,H l=none→Q (.ref l) (upd H l (.lst ys)))∨
   (J.go i H∧∀ x H',J.yld i H x H'→g x σc H' fun σ2 H2=>∃ N:VK,(∀ y H3,N y H3→∃ m',m' < m∧W (i + 1) m' (ys++[y]) σ2 H3)∧te σ2 H2 N))
def lF (fr:List (Option Nat)) (wi:TI) (g:TG) (te:TE):TE:=fun σ H Q=>wi σ H fun J H1=>An J g te (iL fr σ) H1 Q
theorem hW {sc:Scope} {env:Env} {x:Str} {k:NameKind} (h:(relabel sc env).names.lookup x=some k):sc.names.lookup x=some k∨(k=.cell∧sc.names.lookup x=some .free):=by
 have go:∀ l:List (Str×NameKind),(l.map fun (n,k)=>if (k == NameKind.free && env.scope.kind == .function && env.kindOf n == some .cell) then (n,NameKind.cell) else (n,k)).lookup x=some k→l.lookup x=some k∨(k=.cell∧l.lookup x=some .free):=by
  intro l
  induction l with
  | nil=>intro h;simp at h
  | cons p r ih=>
   intro h
   obtain⟨n,k'⟩:=p
   rw[List.map_cons] at h
   by_cases hc:(k' == NameKind.free && env.scope.kind == .function && env.kindOf n == some .cell)=true
   ·have h2:List.lookup x ((n,NameKind.cell)::r.map fun (n,k)=>if (k == NameKind.free && env.scope.kind == .function && env.kindOf n == some .cell) then (n,NameKind.cell) else (n,k))=some k:=by
     have h3:=h
     simp only[hc,if_true] at h3
     exact h3
    have hk:k'=.free:=by
     simp only[Bool.and_eq_true] at hc
     simpa using hc.1.1
    subst hk
    cases hx:x == n with
    | true=>
     rw[List.lookup_cons,hx] at h2
     rw[List.lookup_cons,hx]
     cases h2
     exact .inr ⟨rfl,rfl⟩
    | false=>
     rw[List.lookup_cons,hx] at h2
     rw[List.lookup_cons,hx]
     exact ih h2
   ·have hc':(k' == NameKind.free && env.scope.kind == .function && env.kindOf n == some .cell)=false:=by simpa using hc
    have h2:List.lookup x ((n,k')::r.map fun (n,k)=>if (k == NameKind.free && env.scope.kind == .function && env.kindOf n == some .cell) then (n,NameKind.cell) else (n,k))=some k:=by
     have h3:=h
     simp only[hc',Bool.false_eq_true,if_false] at h3
     exact h3
    cases hx:x == n with
    | true=>
     rw[List.lookup_cons,hx] at h2
     rw[List.lookup_cons,hx]
     exact .inl h2
    | false=>
     rw[List.lookup_cons,hx] at h2
     rw[List.lookup_cons,hx]
     exact ih h2
 exact go _ h
theorem n6 {sc:Scope} {env:Env} {x:Str} (h:sc.names.lookup x=some .free):(relabel sc env).names.lookup x=some .cell∨(relabel sc env).names.lookup x=some .free:=by
 have go:∀ l:List (Str×NameKind),l.lookup x=some .free→(l.map fun (n,k)=>if (k == NameKind.free && env.scope.kind == .function && env.kindOf n == some .cell) then (n,NameKind.cell) else (n,k)).lookup x=some .cell∨(l.map fun (n,k)=>if (k == NameKind.free && env.scope.kind == .function && env.kindOf n == some .cell) then (n,NameKind.cell) else (n,k)).lookup x=some .free:=by
  intro l
  induction l with
  | nil=>intro h;simp at h
  | cons p r ih=>
   intro h
   obtain⟨n,k'⟩:=p
   rw[List.map_cons]
   by_cases hc:(k' == NameKind.free && env.scope.kind == .function && env.kindOf n == some .cell)=true
   ·simp only[hc,if_true]
    cases hx:x == n with
    | true=>left;simp [List.lookup_cons,hx]
    | false=>
     rw[List.lookup_cons,hx] at h
     simp only[List.lookup_cons,hx]
     exact ih h
   ·have hc':(k' == NameKind.free && env.scope.kind == .function && env.kindOf n == some .cell)=false:=by simpa using hc
    simp only[hc',Bool.false_eq_true,if_false]
    cases hx:x == n with
    | true=>
     rw[List.lookup_cons,hx] at h
     right
     simp only[List.lookup_cons,hx]
     exact h
    | false=>
     rw[List.lookup_cons,hx] at h
     simp only[List.lookup_cons,hx]
     exact ih h
 exact go _ h
section
variable {X:Cx} {pins:List (Addr×Obj)} {σ:St}
theorem fe {sc:Scope} {Nc:List Str} {fr:List (Option Nat)} (B:Blk X.N X.env.scope sc Nc fr) (ok:X.Ok) {n:Str} {c:Addr} (h:(takes X.env.cells sc.names []).lookup n=some c):X.env.cells.lookup n=some c:=by
 rcases mY _ _ h with q | ⟨q1,q2⟩
 ·simp at q
 ·obtain⟨c',hc'⟩:=ok.has n (B.free _ q1 rfl)
  rw[hc'] at q2
  rw[hc',q2]
  rfl
theorem dP {n:Str} {k:NameKind}:∀ {l:List (Str×NameKind)},l.lookup n=some k→(n,k)∈l:=fun h=>PySem.mem_of_lookup h
theorem xc {sc:Scope} {Nc:List Str} {fr:List (Option Nat)} (B:Blk X.N X.env.scope sc Nc fr) {s₀:Shared} {H₀:Hp} {C:Addr} {ex:List Addr} {pn:List (Addr×Obj)} (I:Inv X pins σ H₀ s₀) (hC:s₀.heap.objs.size≤C)
  (hex:∀ b∈ex,b < s₀.heap.objs.size∧b∉X.fs∧b≠X.env.locals∧(∀ x c,X.env.cells.lookup x=some c→c≠b)∧∀ o,X.base.get? b≠some o):(bJ X sc Nc s₀ H₀ C ex pn).Ok where
 mod:=I.ok.mod
 kind:=B.kind
 glob:=I.ok.glob
 blt:=I.ok.blt
 above:=hC
 inj:=fun x y c h1 h2=>I.ok.inj x y c (fe B I.ok h1) (fe B I.ok h2)
 has:=fun x hx=>by
  have hf:sc.names.lookup x=some .free:=by
   rcases hx with hx | hx
   ·rcases hW hx with q | ⟨_,q⟩
    ·exact absurd rfl (B.nocell _ (dP q))
    ·exact q
   ·rcases hW hx with q | ⟨_,q⟩
    ·exact q
    ·exact q
  exact Option.isSome_iff_exists.mp (j5 _ _ (dP hf))
 cab:=fun x c h=>by cases (show false=true from h)
 hd:=I.ok.hd
 frames:=I.ok.frames
 stk:=.inl rfl
 exf:=fun b hb=>⟨fun e=>by have:=(hex b hb).1;rw[e] at this;exact absurd (Nat.lt_of_lt_of_le this hC) (Nat.lt_irrefl _),fun x c h=>(hex b hb).2.2.2.1 x c (fe B I.ok h)⟩
 bs:=fun b o e=>I.bs b o e
 bsz:=Nat.le_trans I.ok.bsz I.sz
 noex:=fun b o e hb=>(hex b hb).2.2.2.2 o e
 exfs:=fun b hb hf=>by
  rcases List.mem_cons.mp (I.nV b hf) with e | e
  ·exact(hex b hb).2.2.1 e
  ·exact(hex b hb).2.1 e
 kd:=I.stack
 frf:=fun b hb=>I.sk b hb
end
end L2
namespace L2
open PySem PySem.Spec PyProof.Rows
section
variable {X:Cx}
abbrev dW (us:List Value) (n:Nat):Obj:={ cls:=.type "list",data:=.seq us.toArray n }
theorem rj {α:Type} {Nc:List Str} {fr:List α} {i:Nat} {x:Str} {o:α} (h1:Nc[i]?=some x) (h2:fr[i]?=some o):(x,o)∈Nc.zip fr:=by
 have h3:(Nc.zip fr)[i]?=some (x,o):=by
  rw[List.getElem?_zip_eq_some]
  exact⟨h1,h2⟩
 exact List.mem_of_getElem? h3
theorem tI {pins:List (Addr×Obj)} {σ:St} {sc:Scope} {Nc:List Str} {fr:List (Option Nat)} (B:Blk X.N X.env.scope sc Nc fr) {s₀ s₄:Shared} {H₀:Hp} {C D:Addr} {o:Obj} {ex:List Addr} {mC:Str→Option Value}
  (ok:(bJ X sc Nc s₀ H₀ C ex (X.pn++pins)).Ok) (I:Inv X pins σ H₀ s₀) (hC:s₀.heap.objs.size≤C) (ho:s₄.os=s₀.os) (hg:s₄.gens=s₀.gens) (hk:∀ b u,s₀.heap.get? b=some u→s₄.heap.get? b=some u) (hn:s₄.heap.Ns C mC)
  (hD:s₀.heap.get? D=some o) (hDH:H₀ D=none) (hDL:D≠X.env.locals) (hDf:D∉X.fs) (hDc:∀ v,o.data≠.cell v) :
  Inv (bJ X sc Nc s₀ H₀ C ex (X.pn++pins)) [(D,o)] (iL fr σ) H₀ s₄:=by
 have stk:∀ b,b≠X.env.locals→b∉X.fs→b∉frs X.stack:=fun b h1 h2 h3=>by
  rcases List.mem_cons.mp (I.nV b h3) with e | e
  ·exact h1 e
  ·exact h2 e
 have ltC:∀ {b:Addr} {u:Obj},s₀.heap.get? b=some u→b≠C:=fun e z=>absurd (Nat.lt_of_lt_of_le (Heap.lt_size e) (by rw[z];exact hC)) (Nat.lt_irrefl _)
 refine⟨ok,ho,by rw[hg];exact I.bare,Un.kept hk,⟨mC,hn,fun i x v h1 h2 h3=>?_⟩,fun x c h=>?_,I.hok.fresh hC,fun x c h=>?_,fun p hp=>?_,I.hok.kept hk,?_⟩
 ·have h2':(fr.map fun o=>o.bind fun j=>(σ[j]?).join)[i]?=some (some v):=h2
  rw[List.getElem?_map] at h2'
  cases ef:fr[i]? with
  | none=>rw[ef] at h2';cases h2'
  | some oj=>
   rw[ef] at h2'
   have h4:(oj.bind fun j=>(σ[j]?).join)=some v:=Option.some.inj h2'
   cases oj with
   | none=>cases h4
   | some j=>
    have hz:=B.whence _ (rj h1 ef)
    have hz':(decide (X.N[j]?=some x) && decide (sc.names.lookup x=some .free))=true:=hz
    rw[Bool.and_eq_true] at hz'
    have e1:X.N[j]?=some x:=of_decide_eq_true hz'.1
    have e2:sc.names.lookup x=some .free:=of_decide_eq_true hz'.2
    have h5:σ[j]?=some (some v):=by
     have h6:(σ[j]?).join=some v:=h4
     cases e3:σ[j]? with
     | none=>rw[e3] at h6;cases h6
     | some y=>rw[e3] at h6;exact congrArg some h6
    have hkd:=B.free _ (dP e2) rfl
    obtain⟨m,hm,hl⟩:=I.loc
    have vis:Vis X.env.scope x:=by rcases hkd with k | k;exact .inr (.inl k);exact .inr (.inr k)
    obtain⟨u,r,l⟩:=hl j x v e1 h5 vis
    refine⟨u,r,.inr ⟨n6 e2,?_⟩⟩
    rcases l with ⟨k,_⟩ | ⟨_,c,hc,hcell⟩
    ·have k':X.env.scope.names.lookup x=some .local:=k
     rcases hkd with q | q
     ·rw[q] at k';cases k'
     ·rw[q] at k';cases k'
    ·obtain⟨c',hc'⟩:=Option.isSome_iff_exists.mp (j5 (cells:=X.env.cells) sc.names [] (dP e2))
     have hc2:=fe B I.ok hc'
     rw[hc] at hc2
     cases hc2
     obtain⟨oc,ho1,ho2⟩:=hcell
     exact⟨c,hc',oc,hk _ _ ho1,ho2⟩
 ·obtain⟨v,oc,h1,h2⟩:=I.cell x c (fe B I.ok h)
  exact⟨v,oc,hk _ _ h1,h2⟩
 ·exact I.freeC x c (fe B I.ok h)
 ·rcases List.mem_append.mp hp with hp | hp
  ·obtain⟨e1,e2,e3,e4,e5⟩:=I.pin p hp
   exact⟨hk _ _ e1,e2,ltC e1,stk _ e3 e4,e5⟩
  ·have e:p=(D,o):=by simpa using hp
   subst e
   exact⟨hk _ _ hD,hDH,ltC hD,stk _ hDL hDf,hDc⟩
 ·show (fr.map _).length=Nc.length
  rw[List.length_map,B.len]
abbrev Runs (prog:Program) (w:World) (A:Around) {α:Type} (c:Sem α) (t:Shared) (Q:α→Shared→Prop):Prop:=wpAny (model prog w) A c Q (fun _ _=>False) t
theorem Runs.go {prog:Program} {w:World} {A:Around} {α:Type} {c:Sem α} {t:Shared} {Q Q':α→Shared→Prop} {E:Value→Shared→Prop} (h:Runs prog w A c t Q) (f:∀ a u,Q a u→Q' a u):wpAny (model prog w) A c Q' E t:=wpAny_mono h f fun _ _ z=>z.elim
theorem oM {prog:Program} {w:World} {A:Around} {R:Result→Shared→Prop} {s:Shared} {elt tg iter:Expr} {sc:Scope} {pos:Pos} {it acc:Value} {env:Env} (J:Nat→Shared→Prop)
  (one:∀ k t,J k t→Runs prog w A (pyNext it) t fun r t1=>match r with
   | none=>R (.ok .next) t1
   | some v=>Runs prog w A (letOwnedTupleGo tg it v) t1 fun _ t2=>Runs prog w A (assign tg env v) t2 fun _ t3=>Runs prog w A (eval elt env) t3 fun x t4=>
     Runs prog w A (call (.builtin "list.append") [acc,x]) t4 fun _ t5=>∃ j,j < k∧J j t5)
  (k:Nat) (h:J k s):codeAny (model prog w) A (.compLoop (.ListComp elt [⟨tg,iter,[],0⟩] sc pos) 0 it acc env) R s:=
 PySem.W.kcp_loop J (fun k t hJ=>(one k t hJ).go fun r t1 q=>match r,q with
  | none,q=>q
  | some _,q=>Runs.go q fun _ _ q=>Runs.go q fun _ _ q=>Runs.go q fun _ _ q=>Runs.go q fun _ _ q=>q) k h
theorem mr {elt iter tg:Expr} {sc:Scope} {pos:Pos} {Nc:List Str} {fr:List (Option Nat)} {g:TG} {te:TE} (B:Blk X.N X.env.scope sc Nc fr) (hc:X.calm=true)
  (hg:∀ s₀ H₀ C ex pn,PG (bJ X sc Nc s₀ H₀ C ex pn) tg g) (he:∀ s₀ H₀ C ex pn,PE (bJ X sc Nc s₀ H₀ C ex pn) elt te)
  {pins:List (Addr×Obj)} {σ:St} {s2:Shared} {H2:Hp} {it:Addr} {fp:List Addr} {tn:Nat→Heap→Prop} {J:It} (I2:Inv X pins σ H2 s2) (T:Turn X.prog X.w X.K tg J fp it tn) (st2:tn 0 s2.heap) (f2:∀ b∈fp,gw X pins H2 b)
  {Q:VK} (cw:An J g te (iL fr σ) H2 Q) {RR:Value→Addr→Result→Shared→Prop} {E:Value→Shared→Prop}
  (hRR:∀ D C s' H',Inv X pins σ H' s'→(∃ m,s'.heap.Ns C m)→gw X pins H' C→Q (.ref D) H'→RR (.ref D) C (.ok .next) s') :
  wpAny (model X.prog X.w) X.A (newList []) (fun acc s₃=>wpAny (model X.prog X.w) X.A (newFunctionEnv sc X.env.globals (takes X.env.cells sc.names []) [] X.env.qual none .none (some X.env)) (fun cenv s₄=>
   codeAny (model X.prog X.w) X.A (.compStart (.ListComp elt [⟨tg,iter,[],0⟩] sc pos) 0 (.ref it) acc { cenv with scope:=relabel sc X.env }) (RR acc cenv.locals) s₄) E s₃) E s2:=by
 obtain⟨W,⟨m0,w0⟩,turn⟩:=cw
 refine wpAny_newObj_type (wpAny_newFunctionEnv B.nocell (by intro y hy;simp at hy) (fun h₁ hns₁ hsb₁=>?_) B.kind)
 dsimp only at hns₁ hsb₁ ⊢
 generalize hH2:s2.heap.push { cls:=.type "list",dict:=none,data:=.seq ([]:List Value).toArray }=hp at hns₁ hsb₁ ⊢
 have hCs:hp.objs.size=s2.heap.objs.size + 1:=by rw[← hH2,Heap.size_push]
 generalize hCe:hp.objs.size=C at hns₁ hsb₁ ⊢
 generalize hDe:s2.heap.objs.size=D at hCs ⊢
 have hDC:D≠C:=by rw[← hCe,hCs];exact Nat.ne_of_lt (Nat.lt_succ_self _)
 have up:∀ b o,s2.heap.get? b=some o→hp.get? b=some o:=fun b o e=>by rw[← hH2];exact Heap.get?_push_of_some _ e
 have hDp:hp.get? D=some (dW [] 0):=by rw[← hH2,← hDe];exact Heap.get?_push_size _ rfl
 have I3:Inv X pins σ H2 { s2 with heap:=hp }:=I2.kept (t':=s2.toks) up
 have hD0:H2 D=none:=I2.hok.fresh (by rw[hDe];exact Nat.le_refl _)
 have fD:gw X pins H2 D:=I2.p6 (by rw[hDe];exact Nat.le_refl _) hD0
 have fpo:∀ b∈fp,∃ o,s2.heap.get? b=some o∧∀ v,o.data≠.cell v:=T.obj 0 _ st2
 have fplt:∀ b∈fp,b < D:=fun b hb=>by obtain⟨o,e,_⟩:=fpo b hb;rw[← hDe];exact Heap.lt_size e
 have hDfp:D∉fp:=fun hb=>Nat.lt_irrefl _ (fplt D hb)
 have hCfp:C∉fp:=fun hb=>by have:=fplt C hb;rw[← hCe,hCs] at this;exact absurd (Nat.lt_of_succ_lt this) (Nat.lt_irrefl _)
 have nobase:∀ b,(b∈X.ex∨X.s₀.heap.objs.size≤b)→∀ o,X.base.get? b≠some o:=fun b h o e=>by
  rcases h with h | h
  ·exact I2.ok.noex b o e h
  ·exact absurd (Nat.lt_of_lt_of_le (Heap.lt_size e) (Nat.le_trans I2.ok.bsz h)) (Nat.lt_irrefl _)
 have hex:∀ b∈D::fp,b < hp.objs.size∧b∉X.fs∧b≠X.env.locals∧(∀ x c,X.env.cells.lookup x=some c→c≠b)∧∀ o,X.base.get? b≠some o:=fun b hb=>by
  have fb:gw X pins H2 b:=by
   rcases List.mem_cons.mp hb with e | hb
   ·rw[e];exact fD
   ·exact f2 b hb
  refine⟨?_,fb.2.2.1,fb.2.1,fb.2.2.2.2.1,nobase b fb.2.2.2.1⟩
  rcases List.mem_cons.mp hb with e | hb
  ·rw[e,hCs];exact Nat.lt_succ_self _
  ·rw[hCs];exact Nat.lt_succ_of_lt (fplt b hb)
 have hCle:hp.objs.size≤C:=by rw[hCe];exact Nat.le_refl _
 have ok:(bJ X sc Nc { s2 with heap:=hp } H2 C (D::fp) (X.pn++pins)).Ok:=xc B I3 hCle hex
 have old:∀ b u,hp.get? b=some u→h₁.get? b=some u:=fun b u e=>by
  have hb:b≠C:=by rw[← hCe];exact Nat.ne_of_lt (Heap.lt_size e)
  exact(hsb₁.2 b hb).trans (Heap.get?_push_of_some _ e)
 have J0:Inv (bJ X sc Nc { s2 with heap:=hp } H2 C (D::fp) (X.pn++pins)) [(D,dW [] 0)] (iL fr σ) H2 { s2 with heap:=h₁,toks:=s2.toks + ([]:List (Str×Value)).length }:=
  tI B ok I3 hCle rfl rfl old hns₁ hDp hD0 fD.2.1 fD.2.2.1 (fun v z=>by cases z)
 have fpY:∀ {H':Hp} {u:Obj},(∀ b∈fp,H' b=none)→∀ b∈fp,gw (bJ X sc Nc { s2 with heap:=hp } H2 C (D::fp) (X.pn++pins)) [(D,u)] H' b:=fun {H' u} hn b hb=>
  ⟨hn b hb,fun e=>hCfp (by have e':b=C:=e;rw[← e'];exact hb),ok.exfs b (List.mem_cons_of_mem _ hb),.inl (List.mem_cons_of_mem _ hb),(ok.exf b (List.mem_cons_of_mem _ hb)).2,fun p hp'=>by
   rcases List.mem_append.mp hp' with q | q
   ·exact(f2 b hb).2.2.2.2.2 p q
   ·have e:p=(D,u):=by simpa using q
    rw[e]
    exact fun z=>hDfp (by have z':D=b:=z;rw[z'];exact hb)⟩
 have cellY:∀ {x:Str} {c:Addr},(takes X.env.cells sc.names []).lookup x=some c→c≠D:=fun h=>(ok.exf D List.mem_cons_self).2 _ _ h
 have loop:codeAny (model X.prog X.w) X.A (.compLoop (.ListComp elt [⟨tg,iter,[],0⟩] sc pos) 0 (.ref it) (.ref D) (compEnvC sc (takes X.env.cells sc.names []) C X.env)) (RR (.ref D) C) { s2 with heap:=h₁,toks:=s2.toks + ([]:List (Str×Value)).length }:=by
  refine oM (fun n s'=>∃ (i:Nat) (ys:List V) (us:List Value) (σc:St) (H':Hp),Inv (bJ X sc Nc { s2 with heap:=hp } H2 C (D::fp) (X.pn++pins)) [(D,dW us us.length)] σc H' s'∧Vals ys us∧tn i s'.heap∧(∀ b∈fp,H' b=none)∧W i n ys σc H')
   ?_ m0 ⟨0,[],[],_,H2,J0,.nil,T.keep _ _ _ st2 (fun b _ o e=>old b o (up b o e)),fun b hb=>(f2 b hb).1,w0⟩
  rintro n s3 ⟨i,ys,us,σ3,H3,I3',rv,st3,fr3,w3⟩
  obtain⟨hsz,hcase⟩:=turn i n ys σ3 H3 w3
  rcases hcase with ⟨stop,qn⟩ | ⟨go,step⟩
  ·refine thn (T.done (bJ X sc Nc { s2 with heap:=hp } H2 C (D::fp) (X.pn++pins)) rfl rfl rfl hc i _ s3 σ3 H3 _ I3' (fpY fr3) st3 stop) fun r s4 ⟨hr,I4⟩=>?_
   subst hr
   obtain⟨pD,pH,_,_,_⟩:=I4.pin (D,dW us us.length) (List.mem_append_right _ List.mem_cons_self)
   obtain⟨mC',hnC,_⟩:=I4.loc
   have un:Un (frs X.stack) fp H2 (upd H3 D (.lst ys)) s2.heap s4.heap:=by
    have u0:Un (frs X.stack) (D::fp) H2 H3 hp s4.heap:=I4.base
    have neD:∀ {b:Addr} {o:Obj},s2.heap.get? b=some o→b≠D:=fun e=>by rw[← hDe];exact Nat.ne_of_lt (Heap.lt_size e)
    have nx:∀ {b:Addr} {o:Obj},s2.heap.get? b=some o→b∉fp→b∉D::fp:=fun e h1 h2=>by
     rcases List.mem_cons.mp h2 with z | z
     ·exact neD e z
     ·exact h1 z
    have neT:∀ {b:Addr} {o:HO},H2 b=some o→b≠D:=fun e z=>by rw[z,hD0] at e;cases e
    exact⟨fun b o e n hb hx=>u0.keep b o (up b o e) n hb (nx e hx),fun b o e n hb hx=>u0.slot b o (up b o e) n hb (nx e hx),fun b o e n hx=>by rw[ak (neD e)];exact u0.free b o (up b o e) n (nx e hx),
     fun b o e hx=>u0.there b o (up b o e) (nx e hx),fun b xs e=>by rw[ak (neT e)];exact u0.tups b xs e,fun b o xs e=>by rw[ak (neT e)];exact u0.jR b o xs e,fun b ps e=>by rw[ak (neT e)];exact u0.tbls b ps e⟩
   have hok:HOk X.prog X.w (upd H3 D (.lst ys)) s4.heap:=fun b u e=>by
    by_cases hb:b=D
    ·subst hb
     rw[aD] at e
     cases e
     exact⟨Nat.le_of_lt hsz,us,us.length,rv,pD⟩
    ·rw[ak hb] at e
     refine(I4.hok b u e).nW (fun c v _ q=>q) (fun c q=>?_) fun c xs q=>?_
     ·rw[ak (fun z=>by rw[z] at q;rw[show H3 D=none from pH] at q;cases q)];exact q
     ·rw[ak (fun z=>by rw[z] at q;rw[show H3 D=none from pH] at q;cases q)];exact q
   have I5:Inv X pins σ (upd H3 D (.lst ys)) s4:=I2.Ab I4.os un hok I4.bare fun b hb=>⟨(f2 b hb).2.2.2.1,(f2 b hb).2.1,(f2 b hb).2.2.2.2.1,(f2 b hb).2.2.2.2.2⟩
   refine hRR D C s4 _ I5 ⟨mC',hnC⟩ ?_ (qn D pH)
   have hC2:s2.heap.objs.size≤C:=by rw[hDe,← hCe,hCs];exact Nat.le_succ _
   refine I2.p6 hC2 ?_
   rw[ak (Ne.symm hDC)]
   exact I4.free
  ·refine thn (T.item (bJ X sc Nc { s2 with heap:=hp } H2 C (D::fp) (X.pn++pins)) rfl rfl rfl hc i _ s3 σ3 H3 _ I3' (fpY fr3) st3 go) fun r s4 ⟨u,hr,h4⟩=>?_
   subst hr
   refine thn h4 fun _ s5 ⟨x,H5,I5,r5,y5,st5,fr5⟩=>?_
   have I5':=I5.pinned (fpY fr5) (T.obj _ _ st5)
   refine thn (hg _ _ _ _ _ _ s5 σ3 H5 x u _ I5' r5 (step x H5 y5)) fun _ s6 ⟨σ6,H6,I6,N,hN,q6⟩=>?_
   refine thn (he _ _ _ _ _ _ s6 σ6 H6 _ I6 q6) fun y s7 ⟨yv,H7,I7,r7,q7⟩=>?_
   obtain⟨pD,pH,pL,pF,pc⟩:=I7.pin (D,dW us us.length) (List.mem_append_right _ (List.mem_append_left _ List.mem_cons_self))
   have hlen:us.length=ys.length:=rv.length.symm
   refine append_at (hsz:=by rw[List.size_toArray,hlen];exact Nat.le_of_lt hsz) pD fun h8 sb8 hD8=>?_
   obtain⟨m',hm,w8⟩:=hN yv H7 q7
   have st7:tn (i + 1) s7.heap:=T.keep _ _ _ st5 fun b hb o e=>(I7.pin (b,o) (List.mem_append_right _ (List.mem_append_right _ (el hb e)))).1
   have fr7:∀ b∈fp,H7 b=none:=fun b hb=>by
    obtain⟨o,e,d⟩:=T.obj _ _ st5 b hb
    exact(I7.pin (b,o) (List.mem_append_right _ (List.mem_append_right _ (el hb e)))).2.1
   have I7n:Inv (bJ X sc Nc { s2 with heap:=hp } H2 C (D::fp) (X.pn++pins)) [] σ6 H7 s7:=I7.gG fun p z=>absurd z (by simp)
   have I8:Inv (bJ X sc Nc { s2 with heap:=hp } H2 C (D::fp) (X.pn++pins)) [] σ6 H7 { s7 with heap:=h8 }:=
    I7n.turned (t':=s7.toks) (it:=D) (fun b o hb e=>(sb8.2 b hb).trans e) pH pL (.inl List.mem_cons_self) (fun x c e=>(ok.exf D List.mem_cons_self).2 x c e) fun p hp'=>by
     have hp2:p∈X.pn++pins:=by simpa using hp'
     exact fD.2.2.2.2.2 p hp2
   have e8:h8.get? D=some (dW (us++[y]) (us++[y]).length):=by
    rw[hD8]
    simp
   refine⟨m',hm,i + 1,ys++[yv],us++[y],σ6,H7,I8.gG fun p z=>?_,rv.append (.cons r7 .nil),T.keep _ _ _ st7 fun b hb o e=>(sb8.2 b fun z=>hDfp (by rw[← z];exact hb)).trans e,fr7,w8⟩
   have e:p=(D,dW (us++[y]) (us++[y]).length):=by simpa using z
   subst e
   exact⟨e8,pH,pL,pF,fun v z=>by cases z⟩
 exact codeAny_compStart_list loop (wpAny_mono (T.self X.A 0 _ _ (fun _ _=>False) (T.keep _ _ _ st2 (fun b _ o e=>old b o (up b o e))) loop) (fun _ _ h=>h) fun _ _ h=>h.elim)
theorem oQ {pins:List (Addr×Obj)} {σ:St} {H:Hp} {s:Shared} {sc:Scope} {Nc:List Str} {fr:List (Option Nat)} (B:Blk X.N X.env.scope sc Nc fr) (I:Inv X pins σ H s):closureFor sc X.env=pure (takes X.env.cells sc.names []):=
 mR fun y hy hf=>I.ok.has y.1 (B.free y hy hf)
theorem sG {elt iter tg:Expr} {sc:Scope} {pos:Pos} {Nc:List Str} {fr:List (Option Nat)} {wi:TI} {g:TG} {te:TE} (hc:X.calm=true) (hi:PI X tg iter wi) (B:Blk X.N X.env.scope sc Nc fr)
  (hg:∀ s₀ H₀ C ex pn,PG (bJ X sc Nc s₀ H₀ C ex pn) tg g) (he:∀ s₀ H₀ C ex pn,PE (bJ X sc Nc s₀ H₀ C ex pn) elt te) (hs:∀ x,foldedSetIterable iter X.env x=pure x:=by intro _;rfl) :
  PE X (.ListComp elt [⟨tg,iter,[],0⟩] sc pos) (lF fr wi g te):=by
 intro pins s σ H Q I h
 rw[eval_ListComp]
 refine wpAny_comprehension_free (use:=none) rfl hs (oQ B I) B.kind B.locs (thn (hi pins s σ H _ I h) fun v s1 h1=>thn h1 fun itv s2 h2=>?_)
 obtain⟨it,fp,tn,J,H2,e,I2,T,st2,f2,cw⟩:=h2
 subst e
 refine mr (RR:=fun acc C=>compPost (model X.prog X.w) X.A X.xe none (EP X pins σ Q) acc C) B hc hg he I2 T st2 f2 cw fun D C s' H' I' hn fC q=>?_
 obtain⟨m,hn⟩:=hn
 exact⟨m,hn,fun h' sb=>⟨.ref D,H',I'.turned (t':=s'.toks) (fun b o hb e=>(sb.2 b hb).trans e) fC.1 fC.2.1 fC.2.2.2.1 fC.2.2.2.2.1 fC.2.2.2.2.2,rfl,q⟩⟩
theorem qL {i:Nat} {x:Str} {px spos:Pos} {elt iter tg:Expr} {sc:Scope} {pos:Pos} {Nc:List Str} {fr:List (Option Nat)} {wi:TI} {g:TG} {te:TE} (hN:X.N.Nodup) (hi':X.N[i]?=some x) (hx:X.env.scope.names.lookup x=some .local)
  (hc:X.calm=true) (hi:PI X tg iter wi) (B:Blk X.N X.env.scope sc Nc fr)
  (hg:∀ s₀ H₀ C ex pn,PG (bJ X sc Nc s₀ H₀ C ex pn) tg g) (he:∀ s₀ H₀ C ex pn,PE (bJ X sc Nc s₀ H₀ C ex pn) elt te)
  (hsw:swapsWith (.ListComp elt [⟨tg,iter,[],0⟩] sc pos) (some (.Name x px)) spos.line X.env=pure true:=by rfl) (hs:∀ x,foldedSetIterable iter X.env x=pure x:=by intro _;rfl) :
  PS X (.Assign [.Name x px] (.ListComp elt [⟨tg,iter,[],0⟩] sc pos) spos) (j6 (lF fr wi g te) (g0 i)):=by
 intro pins s σ H D I h
 rw[exec_Assign_Name_used _ _ _ _ hsw]
 refine wpAny_bind (wpAny_standAt (wpAny_bind ?_))
 show wpAny _ X.A (do let _ ← comprehension (.ListComp elt [⟨tg,iter,[],0⟩] sc pos) sc X.env _ (newList []) false (eval iter X.env) (some (assign (.Name x px) X.env))) _ _ s
 refine wpAny_bind (wpAny_mono (wpAny_comprehension_free (use:=some (assign (.Name x px) X.env)) (Q:=fun _ s'=>SP X pins D .next s') rfl hs (oQ B I) B.kind B.locs
  (thn (hi pins s σ H _ I h) fun v s1 h1=>thn h1 fun itv s2 h2=>?_)) (fun _ s' hq=>wpAny_pure (wpAny_pure hq)) fun _ _ e=>e)
 obtain⟨it,fp,tn,J,H2,e,I2,T,st2,f2,cw⟩:=h2
 subst e
 refine mr (RR:=fun acc C=>compPost (model X.prog X.w) X.A X.xe (some (assign (.Name x px) X.env)) (fun _ s'=>SP X pins D .next s') acc C) B hc hg he I2 T st2 f2 cw fun L C s' H' I' hn fC q=>?_
 obtain⟨m,hn⟩:=hn
 show wpAny _ X.A (assign (.Name x px) X.env (.ref L)) _ _ _
 refine wpAny_assign_Name (m4 I' hN hi' (.inl hx) (v:=.ref L) rfl (fun s3 I3 hs3=>?_) (.inr hx))
 obtain⟨a,sb,ha⟩:=hs3
 have hCa:C≠a:=by
  rcases ha with e | e
  ·rw[e];exact fC.2.1
  ·exact fun z=>fC.2.2.2.2.1 _ _ e (by rw[z])
 exact⟨m,hn.sameBut sb hCa,fun h' sb'=>⟨_,H',I3.turned (t':=s3.toks) (fun b o hb e=>(sb'.2 b hb).trans e) fC.1 fC.2.1 fC.2.2.2.1 fC.2.2.2.2.1 fC.2.2.2.2.2,q⟩⟩
end
end L2
namespace L2
open PySem PySem.Spec PyProof.Rows
section
variable {X:Cx}
theorem qh:∀ {bs:List Bool} {us:List Value},Vals (bs.map V.bl) us→LSm.BoolsAre us bs
 | [],_,.nil=>.nil
 | _::_,_,.cons r t=>by
  obtain rfl:=(show _=Value.bool _ from r)
  exact .cons _ (qh t)
theorem ur (hc:X.calm=true):cy X (.builtin "all") (fun xs H Q=>∃ (p:Addr) (bs:List Bool),xs=[.ref p]∧SqL X.K H p (bs.map V.bl)∧Q (.bl (bs.all id)) H):=by
 intro pins s σ H xs us Q I r h
 obtain⟨p,bs,rfl,hq,q⟩:=h
 obtain⟨u,rfl,ru⟩:=vals1 r
 cases ru
 obtain⟨its,rv,pl,hz⟩:=I.list hq
 have hb:=qh rv
 have hl:=pl.isList
 have hlt:p < s.heap.objs.size:=by obtain⟨_,e,_⟩:=hl;exact Heap.lt_size e
 refine call_all_walk (wpAny_pyIter_list hl ⟨s.heap.objs.size,[s.heap.objs.size,p],[s.heap.objs.size],its.toArray.size,_,_,fun i=>(bs[i]?).getD true,rfl,Walks.list (A:=X.A.in1) (I.ok.hd hc) _ p (Nat.ne_of_lt hlt) its.toArray,⟨⟨_,Heap.get?_push_size _ rfl,rfl,rfl⟩,hl.push _⟩,
  fun i v s' Q' E' hP hQ=>?_,fun h' tk hk=>?_⟩)
 ·obtain⟨b,e,rfl⟩:=hb.get i v (by simpa using hP)
  simp only[e,Option.getD_some] at hQ
  exact wpAny_truthy_bool hQ
 ·have e:((List.range its.toArray.size).all fun i=>(bs[i]?).getD true)=bs.all id:=by rw[List.size_toArray,hb.length,LSm.range_all bs]
  rw[e]
  exact⟨.bl _,H,I.kept (LSm.kept_iter hk),rfl,q⟩
structure e9 (K:PySem.W.Frag):Prop where
 bb:PySem.W.kitOne K (.type "bool") (.type "bool")=some true
 bi:PySem.W.kitOne K (.type "bool") (.type "int")=some true
 bl:PySem.W.kitOne K (.type "bool") (.type "list")=some false
 bt:PySem.W.kitOne K (.type "bool") (.type "tuple")=some false
 ib:PySem.W.kitOne K (.type "int") (.type "bool")=some false
 ii:PySem.W.kitOne K (.type "int") (.type "int")=some true
 il:PySem.W.kitOne K (.type "int") (.type "list")=some false
 it:PySem.W.kitOne K (.type "int") (.type "tuple")=some false
 nb:PySem.W.kitOne K (.type "NoneType") (.type "bool")=some false
 ni:PySem.W.kitOne K (.type "NoneType") (.type "int")=some false
 nl:PySem.W.kitOne K (.type "NoneType") (.type "list")=some false
 nt:PySem.W.kitOne K (.type "NoneType") (.type "tuple")=some false
 sb:PySem.W.kitOne K (.type "str") (.type "bool")=some false
 si:PySem.W.kitOne K (.type "str") (.type "int")=some false
 sl:PySem.W.kitOne K (.type "str") (.type "list")=some false
 st:PySem.W.kitOne K (.type "str") (.type "tuple")=some false
 lb:PySem.W.kitOne K (.type "list") (.type "bool")=some false
 li:PySem.W.kitOne K (.type "list") (.type "int")=some false
 ll:PySem.W.kitOne K (.type "list") (.type "list")=some true
 lt:PySem.W.kitOne K (.type "list") (.type "tuple")=some false
 tb:PySem.W.kitOne K (.type "tuple") (.type "bool")=some false
 ti:PySem.W.kitOne K (.type "tuple") (.type "int")=some false
 tl:PySem.W.kitOne K (.type "tuple") (.type "list")=some false
 tt:PySem.W.kitOne K (.type "tuple") (.type "tuple")=some true
 db:PySem.W.kitOne K (.type "dict") (.type "bool")=some false
 di:PySem.W.kitOne K (.type "dict") (.type "int")=some false
 dl:PySem.W.kitOne K (.type "dict") (.type "list")=some false
 dt:PySem.W.kitOne K (.type "dict") (.type "tuple")=some false
inductive Kn (H:Hp):V→Prop where
 | non:Kn H .non
 | bl (b:Bool):Kn H (.bl b)
 | int (i:Int):Kn H (.int i)
 | str (x:Str):Kn H (.str x)
 | lst {a:Addr} {xs:List V} (e:H a=some (.lst xs)):Kn H (.ref a)
 | tup {a:Addr} {xs:List V} (e:H a=some (.tup xs)):Kn H (.ref a)
 | dK {a:Addr} {kvs:List (Key×V)} (e:H a=some (.dK kvs)):Kn H (.ref a)
def isB:V→Bool
 | .bl _=>true
 | _=>false
def isI:V→Bool
 | .bl _=>true
 | .int _=>true
 | _=>false
def isL (H:Hp):V→Bool
 | .ref a=>match H a with
  | some (.lst _)=>true
  | _=>false
 | _=>false
def isT (H:Hp):V→Bool
 | .ref a=>match H a with
  | some (.tup _)=>true
  | _=>false
 | _=>false
theorem sV {H:Hp} {a:Addr} {xs:List V} (h:H a=some (.lst xs)):isL H (.ref a)=true:=by simp only[isL,h]
theorem sU {H:Hp} {a:Addr} {xs:List V} (h:H a=some (.tup xs)):isL H (.ref a)=false:=by simp only[isL,h]
theorem rq {H:Hp} {a:Addr} {xs:List (Key×V)} (h:H a=some (.dK xs)):isL H (.ref a)=false:=by simp only[isL,h]
theorem sT {H:Hp} {a:Addr} {xs:List V} (h:H a=some (.lst xs)):isT H (.ref a)=false:=by simp only[isT,h]
theorem sS {H:Hp} {a:Addr} {xs:List V} (h:H a=some (.tup xs)):isT H (.ref a)=true:=by simp only[isT,h]
theorem rn {H:Hp} {a:Addr} {xs:List (Key×V)} (h:H a=some (.dK xs)):isT H (.ref a)=false:=by simp only[isT,h]
theorem aC {pins:List (Addr×Obj)} {s:Shared} {σ:St} {H:Hp} {x:V} {c:String} {us:List Value} {t:Value} {b b':Bool} {Q:VK} (I:Inv X pins σ H s) (r:Vals [x,.ty c] us) (ty:i5 X.K H x t) (e:PySem.W.kitOne X.K t (.type c)=some b) (eb:b'=b) (q:Q (.bl b') H) :
  wpAny (model X.prog X.w) X.A (call (.builtin "isinstance") us) (EP X pins σ Q) X.xe s:=by
 obtain⟨u,w',rfl,ru,rw'⟩:=vals2 r
 obtain rfl:w'=Value.type c:=rw'
 subst eb
 exact nC I ru ty e fun tk=>⟨.bl b',H,I.tok _,rfl,q⟩
theorem wZ (F:e9 X.K):cy X (.builtin "isinstance") (fun xs H Q=>∃ x,xs=[x,.ty "bool"]∧Kn H x∧Q (.bl (isB x)) H):=by
 intro pins s σ H xs us Q I r h
 obtain⟨x,rfl,k,q⟩:=h
 cases k with
 | non=>exact aC I r .non F.nb rfl q
 | bl b=>exact aC I r (.bl b) F.bb rfl q
 | int i=>exact aC I r (.int i) F.ib rfl q
 | str y=>exact aC I r (.str y) F.sb rfl q
 | lst e=>exact aC I r (.lst e) F.lb rfl q
 | tup e=>exact aC I r (.tup e) F.tb rfl q
 | dK e=>exact aC I r (.dK e) F.db rfl q
theorem wX (F:e9 X.K):cy X (.builtin "isinstance") (fun xs H Q=>∃ x,xs=[x,.ty "int"]∧Kn H x∧Q (.bl (isI x)) H):=by
 intro pins s σ H xs us Q I r h
 obtain⟨x,rfl,k,q⟩:=h
 cases k with
 | non=>exact aC I r .non F.ni rfl q
 | bl b=>exact aC I r (.bl b) F.bi rfl q
 | int i=>exact aC I r (.int i) F.ii rfl q
 | str y=>exact aC I r (.str y) F.si rfl q
 | lst e=>exact aC I r (.lst e) F.li rfl q
 | tup e=>exact aC I r (.tup e) F.ti rfl q
 | dK e=>exact aC I r (.dK e) F.di rfl q
theorem wW (F:e9 X.K):cy X (.builtin "isinstance") (fun xs H Q=>∃ x,xs=[x,.ty "list"]∧Kn H x∧Q (.bl (isL H x)) H):=by
 intro pins s σ H xs us Q I r h
 obtain⟨x,rfl,k,q⟩:=h
 cases k with
 | non=>exact aC I r .non F.nl rfl q
 | bl b=>exact aC I r (.bl b) F.bl rfl q
 | int i=>exact aC I r (.int i) F.il rfl q
 | str y=>exact aC I r (.str y) F.sl rfl q
 | lst e=>exact aC I r (.lst e) F.ll (sV e) q
 | tup e=>exact aC I r (.tup e) F.tl (sU e) q
 | dK e=>exact aC I r (.dK e) F.dl (rq e) q
theorem wV (F:e9 X.K):cy X (.builtin "isinstance") (fun xs H Q=>∃ x,xs=[x,.ty "tuple"]∧Kn H x∧Q (.bl (isT H x)) H):=by
 intro pins s σ H xs us Q I r h
 obtain⟨x,rfl,k,q⟩:=h
 cases k with
 | non=>exact aC I r .non F.nt rfl q
 | bl b=>exact aC I r (.bl b) F.bt rfl q
 | int i=>exact aC I r (.int i) F.it rfl q
 | str y=>exact aC I r (.str y) F.st rfl q
 | lst e=>exact aC I r (.lst e) F.lt (sT e) q
 | tup e=>exact aC I r (.tup e) F.tt (sS e) q
 | dK e=>exact aC I r (.dK e) F.dt (rn e) q
mutual
inductive Dt (K:PySem.W.Frag) (H:Hp):V→PyData→Prop where
 | non:Dt K H .non .none
 | bl (b:Bool):Dt K H (.bl b) (.bool b)
 | int (i:Int):Dt K H (.int i) (.int i)
 | str (x:Str):Dt K H (.str x) (.str x)
 | lst {a:Addr} {xs:List V} {ds:List PyData}:SqL K H a xs→cx K H xs ds→Dt K H (.ref a) (.list ds)
 | tup {a:Addr} {xs:List V} {ds:List PyData}:SqT K H a xs→cx K H xs ds→Dt K H (.ref a) (.tuple ds)
 | dct {a:Addr}:H a=some (.dK [])→Dt K H (.ref a) (.dict [])
 | dcs {a:Addr} (y:Str) (i:Int):H a=some (.dK [(.inr y,.int i)])→Dt K H (.ref a) (.dict [(.str y,.int i)])
inductive cx (K:PySem.W.Frag) (H:Hp):List V→List PyData→Prop where
 | nil:cx K H [] []
 | cons {x:V} {xs:List V} {d:PyData} {ds:List PyData}:Dt K H x d→cx K H xs ds→cx K H (x::xs) (d::ds)
end
theorem rK {pins:List (Addr×Obj)} {σ:St} {H:Hp} {s:Shared} {a:Addr} (I:Inv X pins σ H s) (h:H a=some (.dK [])):∃ o n,s.heap.get? a=some o∧o.cls=.type "dict"∧o.data=.dict #[] n∧(a == sysModules)=false:=by
 obtain⟨_,q,vs,kv,o,es,n,e1,e2,e3,_,e4,_⟩:=z8 I.hok h
 have:vs=[]:=by cases kv;rfl
 subst this
 have:es.toList=[]:=by cases e:es.toList with
  | nil=>rfl
  | cons x xs=>rw[e] at e4;cases e4
 have:es=#[]:=by cases es;simp_all
 subst this
 exact⟨o,n,e1,e2.1,e3,q⟩
theorem rL {pins:List (Addr×Obj)} {σ:St} {H:Hp} {s:Shared} {a:Addr} {y:Str} {i:Int} (I:Inv X pins σ H s) (h:H a=some (.dK [(.inr y,.int i)])) :
  ∃ o es n t u q,s.heap.get? a=some o∧o.cls=.type "dict"∧o.data=.dict es n∧(a == sysModules)=false∧es.toList=[⟨q,.str y t,.int i u⟩]:=by
 obtain⟨_,q,vs,kv,o,es,n,e1,e2,e3,_,e4,_⟩:=z8 I.hok h
 cases kv with
 | @cons p r ps qs h1 t1=>
  cases t1
  obtain⟨r1,r2⟩:=r
  obtain⟨hk,u,hv⟩:=h1
  cases (show (Sum.inr y:Key)=r1 from hk)
  cases (show r2=Value.int i u from hv)
  cases hes:es.toList with
  | nil=>rw[hes] at e4;cases e4
  | cons x xs=>
   rw[hes] at e4
   cases e4 with
   | cons k1 k2 k3=>
    cases k3
    obtain⟨hx,kx,vx⟩:=x
    rcases cj (show wb (.inr y) kx=true from k1) with ⟨j,t,z,_⟩ | ⟨z,t,e,rfl⟩
    ·cases z
    ·cases e
     cases (show vx=Value.int i u from k2)
     exact⟨o,es,n,t,u,hx,e1,e2.1,e3,q,hes⟩
mutual
theorem Dt.reads {pins:List (Addr×Obj)} {σ:St} {H:Hp} {s:Shared} (I:Inv X pins σ H s):∀ {x:V} {d:PyData} {u:Value},Dt X.K H x d→RelV x u→∃ as,Reads s.heap u d as
 | _,_,_,.non,r=>by cases r;exact⟨_,.none⟩
 | _,_,_,.bl b,r=>by cases r;exact⟨_,.bool b⟩
 | _,_,_,.int i,r=>by obtain⟨t,rfl⟩:=r;exact⟨_,.int i t⟩
 | _,_,_,.str y,r=>by obtain⟨t,rfl⟩:=r;exact⟨_,.str y t⟩
 | _,_,_,.lst hq hs,r=>by
  cases r
  obtain⟨its,rv,⟨o,n,e1,e2,e3,e4⟩,hz⟩:=I.list hq
  obtain⟨as,h⟩:=cx.reads I hs rv
  exact⟨_,.list e1 e2 e4 (by simpa using h)⟩
 | _,_,_,.tup hq hs,r=>by
  cases r
  obtain⟨its,rv,⟨o,e1,e2,n,e4⟩,hz⟩:=I.tuple hq
  obtain⟨as,h⟩:=cx.reads I hs rv
  exact⟨_,.tuple e1 e2 e4 (by simpa using h)⟩
 | _,_,_,.dct hq,r=>by
  cases r
  obtain⟨o,n,e1,e2,e3,_⟩:=rK I hq
  exact⟨_,.dict e1 e2 e3 .nil .nil⟩
 | _,_,_,.dcs y i hq,r=>by
  cases r
  obtain⟨o,es,n,t,u,q,e1,e2,e3,_,e5⟩:=rL I hq
  exact⟨_,.dict e1 e2 e3 (by rw[e5];exact .cons (.str y t) .nil) (by rw[e5];exact .cons (.int i u) .nil)⟩
theorem cx.reads {pins:List (Addr×Obj)} {σ:St} {H:Hp} {s:Shared} (I:Inv X pins σ H s):∀ {xs:List V} {ds:List PyData} {us:List Value},cx X.K H xs ds→Vals xs us→∃ as,ReadsAll s.heap us ds as
 | _,_,_,.nil,.nil=>⟨_,.nil⟩
 | _,_,_,.cons h1 h2,.cons r1 r2=>by
  obtain⟨as,a⟩:=Dt.reads I h1 r1
  obtain⟨bs,b⟩:=cx.reads I h2 r2
  exact⟨_,.cons a b⟩
end
structure Shw (d:PyData):Prop where
 sh:d.showable=true
 dp:d.depth≤20
 sz:d.shown.length≤sizeLine
def Cy (X:Cx) (h:Heap) (u:Value) (d:PyData):Prop:=∃ bs,ReadAtMost h d.depth bs∧ReprK X.prog X.w bs h d.depth u d.shown
def zp (X:Cx) (h:Heap) (us:List Value) (ds:List PyData):Prop:=∃ bs,ReadAtMost h (PyData.depthAll ds) bs∧ReprAllK X.prog X.w bs h (PyData.depthAll ds) us (PyData.shownAll ds)
theorem Cy.is {h:Heap} {u:Value} {d:PyData} (k:ReprIs X.prog X.w u d.shown):Cy X h u d:=⟨[],by (intro _ z;cases z),.of_is k _ _ _⟩
theorem mq (y:Str) (i:Int):(reprText y).length≤(PyData.shown (.dict [(.str y,.int i)])).length:=by
 have e:PyData.shown (.dict [(.str y,.int i)])=dictText [reprText y++": "++PyData.shown (.int i)]:=by simp only[PyData.shown,PyData.shownKv]
 have h:=dictText_mem_le (List.mem_singleton.mpr (rfl:reprText y++": "++PyData.shown (.int i)=_))
 rw[strLen_append,strLen_append] at h
 rw[e]
 omega
theorem tw {y:Str} {i:Int} (h:PyData.showable (.dict [(.str y,.int i)])=true):i.natAbs.log2 < 1920:=by
 simp [PyData.showable,PyData.showableKv] at h
 exact h
mutual
theorem Dt.says {pins:List (Addr×Obj)} {σ:St} {H:Hp} {s:Shared} (I:Inv X pins σ H s):∀ {x:V} {d:PyData} {u:Value},Dt X.K H x d→RelV x u→d.showable=true→d.shown.length≤sizeLine→Cy X s.heap u d
 | _,_,_,.non,r,_,_=>by cases r;exact .is (by simp only[PyData.shown];exact .none)
 | _,_,_,.bl b,r,_,_=>by cases r;exact .is (by simp only[PyData.shown];exact .bool b)
 | _,_,_,.int i,r,q,_=>by obtain⟨t,rfl⟩:=r;exact .is (by simp only[PyData.shown];exact .int t (by simpa [PyData.showable] using q))
 | _,_,_,.str y,r,_,z=>by obtain⟨t,rfl⟩:=r;exact .is (by simp only[PyData.shown] at z ⊢;exact .str y t z)
 | _,_,_,.lst (a:=a) (ds:=ds) hq hs,r,q,z=>by
  cases r
  obtain⟨its,rv,⟨o,n,e1,e2,e3,e4⟩,_⟩:=I.list hq
  obtain⟨as,ra⟩:=cx.reads I hs rv
  have rd:Reads s.heap (.ref a) (.list ds) _:=.list e1 e2 e4 (by simpa using ra)
  simp only[PyData.shown] at z
  obtain⟨bs,b1,b2⟩:=cx.says I hs rv (by simpa [PyData.showable] using q) fun t ht=>Nat.le_trans (listText_mem_le ht) z
  have na:=not_mem_of_deeper rd (n:=PyData.depthAll ds) (by simp only[PyData.depth];omega) b1
  refine⟨a::bs,ReadAtMost.cons rd (by simp only[PyData.depth];omega) b1,?_⟩
  simp only[PyData.shown,PyData.depth]
  cases its with
  | nil=>cases rv;cases hs;simp only[PyData.shownAll,listText_nil];exact .listEmpty e1 e2 e4
  | cons y ys=>exact .list e1 e2 e4 na (by rw[b2.length_eq];simp) fun i v e=>b2.item i v (by simpa using e)
 | _,_,_,.tup (a:=a) (ds:=ds) hq hs,r,q,z=>by
  cases r
  obtain⟨its,rv,⟨o,e1,e2,n,e4⟩,_⟩:=I.tuple hq
  obtain⟨as,ra⟩:=cx.reads I hs rv
  have rd:Reads s.heap (.ref a) (.tuple ds) _:=.tuple e1 e2 e4 (by simpa using ra)
  simp only[PyData.shown] at z
  obtain⟨bs,b1,b2⟩:=cx.says I hs rv (by simpa [PyData.showable] using q) fun t ht=>Nat.le_trans (tupleText_mem_le ht) z
  have na:=not_mem_of_deeper rd (n:=PyData.depthAll ds) (by simp only[PyData.depth];omega) b1
  refine⟨a::bs,ReadAtMost.cons rd (by simp only[PyData.depth];omega) b1,?_⟩
  simp only[PyData.shown,PyData.depth]
  exact .tuple e1 e2 e4 na (by simpa using b2)
 | _,_,_,.dct (a:=a) hq,r,_,_=>by
  cases r
  obtain⟨o,n,e1,e2,e3,e4⟩:=rK I hq
  refine⟨[a],fun b hb=>?_,?_⟩
  ·cases List.mem_singleton.mp hb
   exact⟨_,_,.dict e1 e2 e3 .nil .nil,Nat.le_refl _⟩
  ·have:=ReprK.dict (prog:=X.prog) (w:=X.w) (as:=[]) (d:=0) (ps:=[]) e1 e2 e3 e4 (by intro z;cases z) .nil
   simp only[PyData.shown,PyData.depth,PyData.shownKv,PyData.depthKv]
   exact this
 | _,_,_,.dcs (a:=a) y i hq,r,sh,z=>by
  cases r
  obtain⟨o,es,n,t,u,q,e1,e2,e3,e4,e5⟩:=rL I hq
  have ky:(reprText y).length≤sizeLine:=Nat.le_trans (mq y i) z
  refine⟨[a],fun b hb=>?_,?_⟩
  ·cases List.mem_singleton.mp hb
   exact⟨_,_,.dict e1 e2 e3 (by rw[e5];exact .cons (.str y t) .nil) (by rw[e5];exact .cons (.int i u) .nil),Nat.le_refl _⟩
  ·have k1:ReprK X.prog X.w [] s.heap 0 (.str y t) (reprText y):=.of_is (.str y t ky) _ _ _
   have k2:ReprK X.prog X.w [] s.heap 0 (.int i u) (PyData.shown (.int i)):=.of_is (by simp only[PyData.shown];exact .int u (tw sh)) _ _ _
   have:=ReprK.dict (prog:=X.prog) (w:=X.w) (as:=[]) (d:=0) (ps:=_) e1 e2 e3 e4 (by intro z;cases z) (by rw[e5];exact .cons k1 k2 .nil)
   simp only[PyData.shown,PyData.depth,PyData.shownKv,PyData.depthKv]
   exact this
theorem cx.says {pins:List (Addr×Obj)} {σ:St} {H:Hp} {s:Shared} (I:Inv X pins σ H s):∀ {xs:List V} {ds:List PyData} {us:List Value},cx X.K H xs ds→Vals xs us→PyData.showableAll ds=true→(∀ t∈PyData.shownAll ds,t.length≤sizeLine)→zp X s.heap us ds
 | _,_,_,.nil,.nil,_,_=>⟨[],by (intro _ z;cases z),.nil⟩
 | _,_,_,.cons (d:=d) (ds:=ds) h1 h2,.cons r1 r2,q,z=>by
  simp only[PyData.showableAll,Bool.and_eq_true] at q
  simp only[PyData.shownAll,List.mem_cons,forall_eq_or_imp] at z
  obtain⟨as,a1,a2⟩:=Dt.says I h1 r1 q.1 z.1
  obtain⟨bs,b1,b2⟩:=cx.says I h2 r2 q.2 z.2
  have l1:d.depth≤PyData.depthAll (d::ds):=by simp only[PyData.depthAll];exact Nat.le_max_left _ _
  have l2:PyData.depthAll ds≤PyData.depthAll (d::ds):=by simp only[PyData.depthAll];exact Nat.le_max_right _ _
  exact⟨as++bs,(a1.mono l1).append (b1.mono l2),.cons ((a2.more fun _ h=>List.mem_append_left _ h).level_le l1) (b2.more_le (fun _ h=>List.mem_append_right _ h) l2)⟩
end
theorem rN {k:Nat} (hr:cJ k X.A):cy X (.builtin "repr") (fun xs H Q=>∃ a d,xs=[.ref a]∧Dt X.K H (.ref a) d∧Shw d∧Q (.str d.shown) H):=by
 intro pins s σ H xs us Q I r h
 obtain⟨a,d,rfl,hd,S,q⟩:=h
 obtain⟨u,rfl,ru⟩:=vals1 r
 cases ru
 have lu:X.A.units + (d.depth + 1) < cLine:=by have:=hr.units;have:=S.dp;omega
 have fin:∀ h' u tk,(∀ b o,s.heap.get? b=some o→h'.get? b=some o)→∃ x t,Value.str d.shown u=.str x t∧EP X pins σ Q (.str d.shown u) { s with heap:=h',toks:=tk }:=fun h' u tk hk=>⟨_,_,rfl,.str d.shown,H,I.kept hk,⟨_,rfl⟩,q⟩
 have sh:=S.sh
 have sz:=S.sz
 cases hd with
 | @lst _ xs ds hq hs=>
  obtain⟨its,rv,⟨o,n,e1,e2,e3,e4⟩,_⟩:=I.list hq
  obtain⟨as,ra⟩:=cx.reads I hs rv
  have rd:Reads s.heap (.ref a) (.list ds) _:=.list e1 e2 e4 (by simpa using ra)
  simp only[PyData.shown] at sz fin
  simp only[PyData.depth] at lu
  obtain⟨bs,b1,b2⟩:=cx.says I hs rv (by simpa [PyData.showable] using sh) fun t ht=>Nat.le_trans (listText_mem_le ht) sz
  have na:=not_mem_of_deeper rd (n:=PyData.depthAll ds) (by simp only[PyData.depth];omega) b1
  refine call_repr_slot (by omega) ⟨o,e1,e2⟩ F.slot_list_repr.toG ?_
  cases its with
  | nil=>cases rv;cases hs;simp only[PyData.shownAll,listText_nil] at fin;exact call_list_repr_empty ⟨o,e1,e2⟩ e1 e4 (fin s.heap _ _ fun _ _ e=>e)
  | cons y ys=>exact call_list_reprK e1 e2 e4 na (by rw[b2.length_eq];simp) (fun i v e=>b2.item i v (by simpa using e)) hr.gd (fun b _=>Clear.nil b) (by show X.A.units + 1 + _ < _;omega) (fun _ _ e=>e) fin sz
 | @tup _ xs ds hq hs=>
  obtain⟨its,rv,⟨o,e1,e2,n,e4⟩,_⟩:=I.tuple hq
  obtain⟨as,ra⟩:=cx.reads I hs rv
  have rd:Reads s.heap (.ref a) (.tuple ds) _:=.tuple e1 e2 e4 (by simpa using ra)
  simp only[PyData.shown] at sz fin
  simp only[PyData.depth] at lu
  obtain⟨bs,b1,b2⟩:=cx.says I hs rv (by simpa [PyData.showable] using sh) fun t ht=>Nat.le_trans (tupleText_mem_le ht) sz
  have na:=not_mem_of_deeper rd (n:=PyData.depthAll ds) (by simp only[PyData.depth];omega) b1
  exact call_repr_slot (by omega) ⟨o,e1,e2⟩ F.slot_tuple_repr (call_tuple_reprK e1 e2 e4 na (by simpa using b2) hr.gd (fun b _=>Clear.nil b) (by show X.A.units + 1 + _ < _;omega) (fun _ _ e=>e) fin sz)
 | dct hq=>
  obtain⟨o,n,e1,e2,e3,e4⟩:=rK I hq
  simp only[PyData.shown,PyData.shownKv] at sz fin
  simp only[PyData.depth,PyData.depthKv] at lu
  exact call_repr_slot (by omega) ⟨o,e1,e2⟩ F.slot_dict_repr (call_dict_reprK (as:=[]) (d:=0) (ps:=[]) e1 e2 e3 e4 (by intro z;cases z) .nil hr.gd (fun b _=>Clear.nil b) (by show X.A.units + 1 + _ < _;omega) (fun _ _ e=>e) fin sz)
 | dcs y i hq=>
  obtain⟨o,es,n,t,u,q,e1,e2,e3,e4,e5⟩:=rL I hq
  have ky:(reprText y).length≤sizeLine:=Nat.le_trans (mq y i) sz
  have k1:ReprK X.prog X.w [] s.heap 0 (.str y t) (reprText y):=.of_is (.str y t ky) _ _ _
  have k2:ReprK X.prog X.w [] s.heap 0 (.int i u) (PyData.shown (.int i)):=.of_is (by simp only[PyData.shown];exact .int u (tw sh)) _ _ _
  simp only[PyData.shown,PyData.shownKv] at sz fin
  simp only[PyData.depth,PyData.depthKv] at lu
  exact call_repr_slot (by omega) ⟨o,e1,e2⟩ F.slot_dict_repr (call_dict_reprK (as:=[]) (d:=0) e1 e2 e3 e4 (by intro z;cases z) (by rw[e5];exact .cons k1 k2 .nil) hr.gd (fun b _=>Clear.nil b) (by show X.A.units + 1 + _ < _;omega) (fun _ _ e=>e) fin sz)
mutual
theorem Dt.same {K:PySem.W.Frag} {H H':Hp} (e:aE H H'):∀ {x:V} {d:PyData},Dt K H x d→Dt K H' x d
 | _,_,.non=>.non
 | _,_,.bl b=>.bl b
 | _,_,.int i=>.int i
 | _,_,.str y=>.str y
 | _,_,.dct hq=>.dct (e _ _ hq)
 | _,_,.dcs y i hq=>.dcs y i (e _ _ hq)
 | _,_,.lst hq hs=>.lst (e.seq hq) (cx.same e hs)
 | _,_,.tup hq hs=>by
  refine .tup ?_ (cx.same e hs)
  rcases hq with (h | ⟨o,h⟩) | h
  ·exact .inl (.inl (e _ _ h))
  ·exact .inl (.inr ⟨o,e _ _ h⟩)
  ·exact .inr h
theorem cx.same {K:PySem.W.Frag} {H H':Hp} (e:aE H H'):∀ {xs:List V} {ds:List PyData},cx K H xs ds→cx K H' xs ds
 | _,_,.nil=>.nil
 | _,_,.cons h1 h2=>.cons (Dt.same e h1) (cx.same e h2)
end
end
end L2
namespace L2
open PySem PySem.Spec PyProof.Rows
section
variable {X:Cx} {pins:List (Addr×Obj)} {σ:St} {H:Hp} {s:Shared}
theorem Inv.moved {ch:List Addr} {h':Heap} {t':Nat} (I:Inv X pins σ H s) (hch:∀ b∈ch,gw X pins H b) (hk:∀ b o,b∉ch→s.heap.get? b=some o→h'.get? b=some o):Inv X pins σ H { s with heap:=h',toks:=t' }:=by
 have nt:∀ {b:Addr} {u:HO},H b=some u→b∉ch:=fun e hb=>by rw[(hch _ hb).1] at e;cases e
 refine I.step (g':=s.gens) (d':=s.drawn) (ch:=ch) (fun b hb=>⟨(hch b hb).2.2.2.1,(hch b hb).2.1,(hch b hb).2.2.2.2.1,(hch b hb).2.2.2.2.2⟩) (fun b o _ _ hc e _=>hk b o hc e) (fun b o _ _ hc e _=>⟨o.slots,hk b o hc e⟩) (fun _ _ _ _ n=>n)
  (fun b o hc e=>⟨o,hk b o hc e⟩) (fun _ _ e=>e) (fun _ _ _ e=>e) (fun b ps e=>⟨#[],by rw[e];simp⟩) (fun m hm=>?_) (fun b u e=>?_) I.bare
 ·obtain⟨o,es,ep,ho,r⟩:=hm
  exact⟨o,es,ep,hk _ o (fun hb=>(hch _ hb).2.1 rfl) ho,r⟩
 ·exact(I.hok b u e).nW (fun c v hc q=>hk c v (by rcases hc with z | z <;> first | (rw[z];exact nt e) | exact nt z) q) (fun _ q=>q) fun _ _ q=>q
theorem Inv.yd {ch:List Addr} {T:Addr} {x y:V} {u v:Value} {h':Heap} {t':Nat} (I:Inv X pins σ H s) (hch:∀ b∈ch,gw X pins H b) (hT:s.heap.objs.size≤T)
  (hk:∀ b o,b∉ch→s.heap.get? b=some o→h'.get? b=some o) (ht:IsTup h' T #[u,v]) (ru:RelV x u) (rv:RelV y v):Inv X pins σ (upd H T (.tup [x,y])) { s with heap:=h',toks:=t' }:=by
 have nt:∀ {b:Addr} {u:HO},H b=some u→b∉ch:=fun e hb=>by rw[(hch _ hb).1] at e;cases e
 have fT:H T=none:=I.hok.fresh hT
 have neT:∀ {b:Addr} {o:Obj},s.heap.get? b=some o→b≠T:=fun e=>Nat.ne_of_lt (Nat.lt_of_lt_of_le (Heap.lt_size e) hT)
 have neH:∀ {b:Addr} {u:HO},H b=some u→b≠T:=fun e z=>by rw[z,fT] at e;cases e
 refine I.step (g':=s.gens) (d':=s.drawn) (ch:=ch) (fun b hb=>⟨(hch b hb).2.2.2.1,(hch b hb).2.1,(hch b hb).2.2.2.2.1,(hch b hb).2.2.2.2.2⟩) (fun b o _ _ hc e _=>hk b o hc e) (fun b o _ _ hc e _=>⟨o.slots,hk b o hc e⟩) (fun b o _ e n=>by rw[ak (neT e)];exact n)
  (fun b o hc e=>⟨o,hk b o hc e⟩) (fun b xs e=>by rw[ak (neH e)];exact e) (fun b o xs e=>by rw[ak (neH e)];exact e) (fun b ps e=>⟨#[],by rw[ak (neH e),e];simp⟩) (fun m hm=>?_) (fun b o e=>?_) I.bare
 ·obtain⟨o,es,ep,ho,r⟩:=hm
  exact⟨o,es,ep,hk _ o (fun hb=>(hch _ hb).2.1 rfl) ho,r⟩
 ·by_cases hb:b=T
  ·subst hb
   rw[aD] at e
   cases e
   exact⟨(by show 2≤sizeLine;decide),[u,v],.cons ru (.cons rv .nil),ht⟩
  ·rw[ak hb] at e
   exact(I.hok b o e).nW (fun c w' hc q=>hk c w' (by rcases hc with z | z <;> first | (rw[z];exact nt e) | exact nt z) q) (fun c q=>by rw[ak (neH q)];exact q) fun c xs q=>by rw[ak (neH q)];exact q
end
def Itz (a b:Addr):It:=
 ⟨fun i H=>∃ xs ys x y,H a=some (.lst xs)∧H b=some (.lst ys)∧xs[i]?=some x∧ys[i]?=some y,
  fun i H v H'=>∃ t xs ys x y,H t=none∧H a=some (.lst xs)∧H b=some (.lst ys)∧xs[i]?=some x∧ys[i]?=some y∧v=.ref t∧H'=upd H t (.tup [x,y]),
  fun i H=>∃ xs ys,H a=some (.lst xs)∧H b=some (.lst ys)∧(xs.length≤i∨ys.length≤i)⟩
def Ex (z TI TO i1 i2 l1 l2:Addr) (i:Nat) (h:Heap):Prop:=IsZip h z TI TO .none∧IsPair h TI (.ref i1) (.ref i2)∧(∃ a b,IsPair h TO a b)∧h.IsListIter i1 l1 i∧h.IsListIter i2 l2 i
structure o4 (z TI TO i1 i2:Addr):Prop where
 TIz:TI≠z
 TOz:TO≠z
 i1z:i1≠z
 i2z:i2≠z
 TITO:TI≠TO
 TIi1:TI≠i1
 TIi2:TI≠i2
 TOi1:TO≠i1
 TOi2:TO≠i2
 i12:i1≠i2
theorem uK {P:Program} {w:World} {K:PySem.W.Frag} {es:List Expr} {kt:Nat} {tp:Pos} (z TI TO i1 i2 l1 l2:Addr) (D:o4 z TI TO i1 i2) :
  Turn P w K (.Tuple es kt tp) (Itz l1 l2) [z,TI,TO,i1,i2] z (Ex z TI TO i1 i2 l1 l2) where
 mem:=by simp
 obj:=fun i h st b hb=>by
  obtain⟨hz,hTI,⟨a,c,hTO⟩,⟨o1,e1,_,d1⟩,⟨o2,e2,_,d2⟩⟩:=st
  simp only[List.mem_cons,List.not_mem_nil,or_false] at hb
  rcases hb with rfl | rfl | rfl | rfl | rfl
  ·exact⟨_,hz,fun v q=>by cases q⟩
  ·exact⟨_,hTI,fun v q=>by cases q⟩
  ·exact⟨_,hTO,fun v q=>by cases q⟩
  ·exact⟨_,e1,fun v q=>by rw[d1] at q;cases q⟩
  ·exact⟨_,e2,fun v q=>by rw[d2] at q;cases q⟩
 keep:=fun i h h' st k=>by
  obtain⟨hz,hTI,⟨a,c,hTO⟩,h1,h2⟩:=st
  exact⟨k z (by simp) _ hz,k TI (by simp) _ hTI,⟨a,c,k TO (by simp) _ hTO⟩,h1.at fun o e=>k i1 (by simp) o e,h2.at fun o e=>k i2 (by simp) o e⟩
 item:=by
  intro X hP hw hK hc i pins s σ H E I hf st hg
  subst hP hw hK
  obtain⟨xs,ys,x,y,ha,hb,hx,hy⟩:=hg
  obtain⟨hz,hTI,⟨a0,b0,hTO⟩,h1,h2⟩:=st
  obtain⟨ia,na,ra,ea,_⟩:=I.lst ha
  obtain⟨ib,nb,rb,eb,_⟩:=I.lst hb
  have nf:∀ b∈[z,TI,TO,i1,i2],H b=none:=fun b hb=>(hf b hb).1
  have ne1:∀ b∈[z,TI,TO,i1,i2],l1≠b:=fun b hb e=>by rw[e,nf b hb] at ha;cases ha
  have ne2:∀ b∈[z,TI,TO,i1,i2],l2≠b:=fun b hb' e=>by rw[e,nf b hb'] at hb;cases hb
  have Z:ZipApart z TI TO i1 i2 l1 l2:=⟨D.TIz,D.TOz,D.i1z,D.i2z,D.TITO,D.TIi1,D.TIi2,D.TOi1,D.TOi2,D.i12,ne1 z (by simp),ne1 TO (by simp),ne1 i1 (by simp),ne1 i2 (by simp),ne2 z (by simp),ne2 TO (by simp),ne2 i1 (by simp),ne2 i2 (by simp)⟩
  obtain⟨u,hu,ru⟩:=ra.get hx
  obtain⟨v,hv,rv⟩:=rb.get hy
  refine wpAny_pyNext_zip_item Z hz hTI hTO h1 h2 (xs:=ia.toArray) (ys:=ib.toArray) ⟨_,ea,rfl,_,rfl⟩ ⟨_,eb,rfl,_,rfl⟩ (x:=u) (y:=v) (by simpa using hu) (by simpa using hv) fun h' a1 a2 a3 a4 a5 a6 hk=>?_
  refine⟨_,rfl,wpAny_letOwnedTupleGo_zip a1 fun h2' hz' hs'=>?_⟩
  have zT:s.heap.objs.size≠z:=Nat.ne_of_gt (Heap.lt_size hz)
  refine⟨.ref s.heap.objs.size,upd H s.heap.objs.size (.tup [x,y]),?_,rfl,⟨_,xs,ys,x,y,I.hok.fresh (Nat.le_refl _),ha,hb,hx,hy,rfl,rfl⟩,?_,fun b hb'=>?_⟩
  ·refine I.yd (t':=s.toks) (ch:=[z,TO,i1,i2]) (u:=u) (v:=v) (fun b hb'=>hf b (by simp at hb' ⊢;rcases hb' with e | e | e | e <;> simp [e])) (Nat.le_refl _) (fun b o hb' e=>?_) ⟨_,hs'.extBut _ _ zT a5,rfl,_,rfl⟩ ru rv
   simp only[List.mem_cons,List.not_mem_nil,or_false,not_or] at hb'
   exact hs'.extBut b o hb'.1 (hk b o hb'.1 hb'.2.1 hb'.2.2.1 hb'.2.2.2 e)
  ·exact⟨hz',hs'.extBut _ _ D.TIz (hk _ _ D.TIz D.TITO D.TIi1 D.TIi2 hTI),⟨_,_,hs'.extBut _ _ D.TOz a2⟩,a3.extBut hs'.extBut D.i1z,a4.extBut hs'.extBut D.i2z⟩
  ·rw[ak]
   ·exact nf b hb'
   ·have hlt:∃ o,s.heap.get? b=some o:=by
     obtain⟨o1,e1,_⟩:=h1
     obtain⟨o2,e2,_⟩:=h2
     simp only[List.mem_cons,List.not_mem_nil,or_false] at hb'
     rcases hb' with rfl | rfl | rfl | rfl | rfl
     ·exact⟨_,hz⟩
     ·exact⟨_,hTI⟩
     ·exact⟨_,hTO⟩
     ·exact⟨_,e1⟩
     ·exact⟨_,e2⟩
    obtain⟨o,e⟩:=hlt
    exact Nat.ne_of_lt (Heap.lt_size e)
 done:=by
  intro X hP hw hK hc i pins s σ H E I hf st hg
  subst hP hw hK
  obtain⟨xs,ys,ha,hb,hl⟩:=hg
  obtain⟨hz,hTI,⟨a0,b0,hTO⟩,h1,h2⟩:=st
  obtain⟨ia,na,ra,ea,_⟩:=I.lst ha
  obtain⟨ib,nb,rb,eb,_⟩:=I.lst hb
  have nf:∀ b∈[z,TI,TO,i1,i2],H b=none:=fun b hb=>(hf b hb).1
  have ne1:∀ b∈[z,TI,TO,i1,i2],l1≠b:=fun b hb e=>by rw[e,nf b hb] at ha;cases ha
  have ne2:∀ b∈[z,TI,TO,i1,i2],l2≠b:=fun b hb' e=>by rw[e,nf b hb'] at hb;cases hb
  have Z:ZipApart z TI TO i1 i2 l1 l2:=⟨D.TIz,D.TOz,D.i1z,D.i2z,D.TITO,D.TIi1,D.TIi2,D.TOi1,D.TOi2,D.i12,ne1 z (by simp),ne1 TO (by simp),ne1 i1 (by simp),ne1 i2 (by simp),ne2 z (by simp),ne2 TO (by simp),ne2 i1 (by simp),ne2 i2 (by simp)⟩
  have la:=ra.length
  have lb:=rb.length
  refine wpAny_pyNext_zip_end (I.ok.hd hc) Z hz hTI hTO h1 h2 (xs:=ia.toArray) (ys:=ib.toArray) ⟨_,ea,rfl,_,rfl⟩ ⟨_,eb,rfl,_,rfl⟩ ?_ fun h' hk=>⟨rfl,I.moved (t':=s.toks) (ch:=[z,TO,i1,i2]) (fun b hb'=>hf b (by simp at hb' ⊢;rcases hb' with e | e | e | e <;> simp [e])) fun b o hb' e=>?_⟩
  ·rcases hl with hl | hl
   ·left;simp;omega
   ·right;simp;omega
  ·simp only[List.mem_cons,List.not_mem_nil,or_false,not_or] at hb'
   exact hk b o hb'.1 hb'.2.1 hb'.2.2.1 hb'.2.2.2 e
 self:=fun _ _ _ _ _ st h=>wpAny_pyIter_zip st.1 h
section
variable {X:Cx}
def DN (ta:TA):TI:=fun σ H R=>ta σ H fun vs H1=>∃ (p q:Addr) (xs ys:List V),vs=[.ref p,.ref q]∧H1 p=some (.lst xs)∧H1 q=some (.lst ys)∧R (Itz p q) H1
theorem A1 {a b:Expr} {ta:TA} {es:List Expr} {kt:Nat} {tp p pos:Pos} (hg:Gl X "zip") (hm:X.mg "zip"=none) (ha:PA X [a,b] ta) (hs:starEach [a,b] X.env=[(false,eval a X.env),(false,eval b X.env)]:=by rfl) (hs2:starEach [b] X.env=[(false,eval b X.env)]:=by rfl) :
  PI X (.Tuple es kt tp) (.Call (.Name "zip" p) [a,b] [] pos) (DN ta):=by
 intro pins s σ H R I h
 refine Call_ (md I hg hm (by decide +kernel:bootBuiltins "zip"=some (.type "zip")) (PyProof.Rows.callWith_type1 (thn (ha pos pins s σ H _ I h) fun us s1 ⟨vs,H1,I1,r1,q1⟩=>?_) (by rw[hs,hs2]) (by rw[hs2];rfl)))
 obtain⟨l1,l2,xs,ys,e,h1,h2,q⟩:=q1
 subst e
 obtain⟨u,w',rfl,ru,rw'⟩:=vals2 r1
 cases ru
 cases rw'
 obtain⟨ia,na,ra,ea,_⟩:=I1.lst h1
 obtain⟨ib,nb,rb,eb,_⟩:=I1.lst h2
 refine call_zip_2 (xs:=ia.toArray) (ys:=ib.toArray) ⟨_,ea,rfl,_,rfl⟩ ⟨_,eb,rfl,_,rfl⟩ fun h' hz hTI hTO hi1 hi2 hsz hk=>wpAny_pyIter_zip hz ?_
 have I2:Inv X pins σ H1 { s1 with heap:=h' }:=I1.kept (t':=s1.toks) hk
 have lt:∀ i j:Nat,i < j→s1.heap.objs.size + i≠s1.heap.objs.size + j:=fun i j h e=>by omega
 have D:o4 (s1.heap.objs.size + 4) (s1.heap.objs.size + 2) (s1.heap.objs.size + 3) s1.heap.objs.size (s1.heap.objs.size + 1):=
  ⟨lt 2 4 (by decide),lt 3 4 (by decide),lt 0 4 (by decide),lt 1 4 (by decide),lt 2 3 (by decide),(lt 0 2 (by decide)).symm,(lt 1 2 (by decide)).symm,(lt 0 3 (by decide)).symm,(lt 1 3 (by decide)).symm,lt 0 1 (by decide)⟩
 refine⟨_,_,_,_,H1,rfl,I2,uK _ _ _ _ _ l1 l2 D,⟨hz,hTI,⟨_,_,hTO⟩,hi1,hi2⟩,fun b hb=>?_,q⟩
 have hge:s1.heap.objs.size≤b:=by
  simp only[List.mem_cons,List.not_mem_nil,or_false] at hb
  rcases hb with rfl | rfl | rfl | rfl | rfl <;> omega
 exact I1.p6 hge (I1.hok.fresh hge)
end
def Ite (a:Addr):It:=
 ⟨fun i H=>∃ xs x,H a=some (.lst xs)∧xs[i]?=some x,
  fun i H v H'=>∃ t xs x,H t=none∧H a=some (.lst xs)∧xs[i]?=some x∧v=.ref t∧H'=upd H t (.tup [.int i,x]),
  fun i H=>∃ xs,H a=some (.lst xs)∧xs.length≤i⟩
def HW (e it l:Addr) (i:Nat) (h:Heap):Prop:=(∃ old,IsEnum h e it i old)∧h.IsListIter it l i
section
variable {X:Cx}
def G4 (ta:TA):TI:=fun σ H R=>ta σ H fun vs H1=>∃ (p:Addr) (xs:List V),vs=[.ref p]∧H1 p=some (.lst xs)∧R (Ite p) H1
def Dj (xs:List V) (lo hi st:Option Int):List V:=
 (sliceRange (sliceBounds lo hi st xs.length).1 (sliceBounds lo hi st xs.length).2.1 (sliceBounds lo hi st xs.length).2.2).filterMap (xs[·]?)
def Hb (K:PySem.W.Frag) (te:TE) (tl th ts:TO):TE:=fun σ H Q=>te σ H fun x H1=>tl σ H1 fun l H2=>th σ H2 fun u H3=>ts σ H3 fun k H4=>k≠some 0∧∃ a xs,x=.ref a∧SqL K H4 a xs∧∀ p,H4 p=none→Q (.ref p) (upd H4 p (.lst (Dj xs l u k)))
end
end L2
namespace L2
open PySem PySem.Spec PyProof.Rows
abbrev GD (h:Heap) (z TI TO T:Addr) (f:Bool):Prop:=h.get? z=some { cls:=.type "zip",dict:=none,data:=.fields #[rawInt T,.bool f,.bool false,.ref TI,.ref TO],slots:=#[] }
section
variable {prog:Program} {w:World} {A:Around} {E:Value→Shared→Prop} {s:Shared}
end
end L2
namespace L2
open PySem PySem.Spec PyProof.Rows
section
variable {X:Cx} {pins:List (Addr×Obj)} {σ:St} {H:Hp} {s:Shared}
def Gu (H:Hp) (xs ys:List V) (Q:VK):Prop:=∀ (S:Addr) (ts:List Addr) (H':Hp),H S=none→aE H H'→H' S=some (.lst (ts.map V.ref))→ts.length=min xs.length ys.length→
 (∀ (j:Nat) t x y,ts[j]?=some t→xs[j]?=some x→ys[j]?=some y→H' t=some (.tup [x,y]))→(∀ t∈ts,H t=none)→Q (.ref S) H'
def CQ (t:TA):TE:=fun σ H Q=>t σ H fun vs H1=>∃ (p q:Addr) (xs ys:List V),vs=[.ref p,.ref q]∧H1 p=some (.lst xs)∧H1 q=some (.lst ys)∧min xs.length ys.length < sizeLine∧Gu H1 xs ys Q
end
end L2
namespace L2
open PySem PySem.Spec PyProof.Rows
section
variable {X:Cx} {C:Addr} {x:Str} {p pos:Pos}
structure Mk0 (K:PySem.W.Frag) (C:Addr):Prop where
 makes:PySem.W.makesIn K C=true
 init:PySem.W.findIn K (.ref C) "__init__"=some (some (.builtin "object.__init__"))
 kp:PySem.W.keepIn K (.ref C)=true
def EK (C:Addr):TE:=fun _ H Q=>∀ x dx,H x=none→H dx=none→dx≠x→Q (.ref x) (upd (upd H dx (.own x)) x (.ins C dx []))
end
end L2
namespace L2
open PySem PySem.Spec PyProof.Rows
def CC (lo c:Int) (n:Nat):It:=⟨fun i _=>i < n,fun i H x H'=>H'=H∧x=.int (lo + i * c),fun i _=>n≤i⟩
def DD (lo hi:Int):Nat:=((hi - lo + 1) / 2).toNat
section
variable {X:Cx} {tg:Expr}
def G2 (ta:TA):TI:=fun σ H R=>ta σ H fun vs H1=>∃ i j:Int,vs=[.int i,.int j,.int 2]∧(-1000000≤i∧i≤1000000∧-1000000≤j∧j≤1000000)∧R (CC i 2 (DD i j)) H1
end
end L2
namespace L2
open PySem PySem.Spec PyProof.Rows
end L2
namespace L2
open PySem PySem.Spec PyProof.Rows
def sgn (c:Nat):Str:=⟨#[c]⟩
def Its (x:Str):It:=⟨fun i _=>i < x.cps.size,fun i H v H'=>H'=H∧∃ c,x.cps[i]?=some c∧v=.str (sgn c),fun i _=>x.cps.size≤i⟩
section
variable {X:Cx} {tg:Expr}
def HD (tl:TE):TI:=fun σ H R=>tl σ H fun x H1=>∃ z,x=.str z∧z.cps.all (· < 128)=true∧R (Its z) H1
def G1 (ta:TA):TI:=fun σ H R=>ta σ H fun vs H1=>∃ i j:Int,vs=[.int i,.int j,.int (-1)]∧(-1000000≤i∧i≤1000000∧-1000000≤j∧j≤1000000)∧R (CC i (-1) (i - j).toNat) H1
end
end L2
namespace L2
open PySem PySem.Spec PyProof.Rows
section
variable {X:Cx} {tg:Expr}
def GW:R2:=fun x y H Q=>∃ z n,x=.str z∧y=.int n∧(n=0∨n=1)∧z.length≤sizeLine∧Q (.str (if n=0 then Str.empty else z)) H
def Hu:V→Option Int→Option Int→Hp→VK→Prop:=fun x lo hi H Q=>∃ z,x=.str z∧z.length≤sizeLine∧Q (.str (Txt.slice z lo hi)) H
def tokOf:Value→Option (Int×Tok)
 | .int i t=>some (i,t)
 | _=>none
def Fu:V→List V→Hp→VK→Prop:=fun x vs H Q=>∃ z y,x=.str z∧vs=[.str y]∧Q (.int (Builtin.Str.occurrences z y 0 z.length (z.length + 1)).length) H
def sy:V→List V→Hp→VK→Prop:=fun x vs H Q=>∃ l xs k y,x=.ref l∧vs=[.int k,y]∧H l=some (.lst xs)∧0≤k∧k≤xs.length∧xs.length < sizeLine∧Q .non (upd H l (.lst (xs.take k.toNat++y::xs.drop k.toNat)))
theorem ub:MtM X "list.insert" sy:=by
 intro pins s σ H x vs v us Q I rx rv h
 obtain⟨l,xs,k,y,rfl,rfl,hH,h0,h1,hz,q⟩:=h
 cases rx
 obtain⟨u,w',rfl,ru,rw'⟩:=vals2 rv
 obtain⟨t,rfl⟩:=ru
 obtain⟨z,its,n,r,hl,e⟩:=I.mQ hH
 have hsz:=jl
 refine call_meets F.slot_list_insert ⟨_,e,rfl⟩ F.entry_list_insert (F.args_list_insert_3 _ _ _)
  (AutoSeq1.list_insert_list_int_val_1 l its.toArray n k t w' (by rw[fitsIndex_both (by omega) (by omega)];exact Bool.false_ne_true) (by rw[List.size_toArray];omega)) ⟨e,?_⟩
 refine⟨.non,_,I.q_ (its':=its.take k.toNat++w'::its.drop k.toNat) hH e ?_ ((r.take k.toNat).append (.cons rw' (r.drop k.toNat))) ?_,rfl,q⟩
 ·have hk:(if k < 0 then (k + (its.toArray.size:Int)).toNat else min k.toNat its.toArray.size)=k.toNat:=by
   rw[if_neg (by omega),List.size_toArray];omega
  show (its.toArray.extract 0 (if k < 0 then (k + (its.toArray.size:Int)).toNat else min k.toNat its.toArray.size)).push w'++its.toArray.extract (if k < 0 then (k + (its.toArray.size:Int)).toNat else min k.toNat its.toArray.size)=_
  rw[hk]
  apply Array.toList_inj.mp
  simp
  rw[List.take_of_length_le (by rw[List.length_drop];omega)]
 ·rw[List.length_append,List.length_take,List.length_cons,List.length_drop];omega
structure TyS (K:PySem.W.Frag):Prop where
 bs:PySem.W.kitOne K (.type "bool") (.type "str")=some false
 is:PySem.W.kitOne K (.type "int") (.type "str")=some false
 ns:PySem.W.kitOne K (.type "NoneType") (.type "str")=some false
 ss:PySem.W.kitOne K (.type "str") (.type "str")=some true
 ls:PySem.W.kitOne K (.type "list") (.type "str")=some false
 ts:PySem.W.kitOne K (.type "tuple") (.type "str")=some false
 ds:PySem.W.kitOne K (.type "dict") (.type "str")=some false
def isS:V→Bool
 | .str _=>true
 | _=>false
end
end L2
namespace L2
open PySem PySem.Spec PyProof.Rows
section
variable {prog:Program} {w:World} {A:Around} {E:Value→Shared→Prop} {s:Shared}
abbrev GV (n:Int):Obj:={ cls:=.type "range_iterator",data:=.fields #[rawInt (n - 1),rawInt n,rawInt (-1)] }
end
section
variable {X:Cx} {tg:Expr}
def HE (ta:TA):TI:=fun σ H R=>ta σ H fun vs H1=>∃ j:Int,vs=[.int j]∧0≤j∧j < 2 ^ 62∧R (CC (j - 1) (-1) j.toNat) H1
end
end L2
namespace L2
open PySem PySem.Spec PyProof.Rows
section
variable {prog:Program} {w:World} {A:Around} {E:Value→Shared→Prop} {s:Shared}
structure ZsD (z TI TO i1 i2 p:Addr):Prop extends o4 z TI TO i1 i2 where
 pz:p≠z
 pTO:p≠TO
 pi1:p≠i1
 pi2:p≠i2
end
end L2
namespace L2
open PySem PySem.Spec PyProof.Rows
def GC (K:PySem.W.Frag) (x:Str) (p:Addr):It:=
 ⟨fun i H=>∃ ys y,SqT K H p ys∧i < x.cps.size∧ys[i]?=some y,
  fun i H v H'=>∃ t y c,H t=none∧(∀ ys,SqT K H p ys→ys[i]?=some y)∧x.cps[i]?=some c∧v=.ref t∧H'=upd H t (.tup [.str (sgn c),y]),
  fun i _=>x.cps.size≤i⟩
def HH (z TI TO i1 i2:Addr) (x:Str) (tk:Tok) (p:Addr) (i:Nat) (h:Heap):Prop:=IsZip h z TI TO .none∧IsPair h TI (.ref i1) (.ref i2)∧(∃ a b,IsPair h TO a b)∧h.IsStrIter i1 "str_ascii_iterator" x tk i∧h.IsTupleIter i2 p i
section
variable {X:Cx} {pins:List (Addr×Obj)} {σ:St} {H:Hp} {s:Shared}
end
abbrev zs1 (h:Heap) (x:Str) (t:Tok):Heap:=h.push { cls:=.type "str_ascii_iterator",data:=.fields #[.str x t,.int 0 0] }
abbrev zs2 (h:Heap) (x:Str) (t:Tok) (p:Addr):Heap:=(zs1 h x t).push { cls:=.type "tuple_iterator",data:=.fields #[.ref p,.int 0 0] }
abbrev zs3 (h:Heap) (x:Str) (t:Tok) (p:Addr):Heap:=(zs2 h x t p).push { cls:=.type "tuple",data:=.seq #[.ref h.objs.size,.ref (zs1 h x t).objs.size] }
abbrev zs4 (h:Heap) (x:Str) (t:Tok) (p:Addr):Heap:=(zs3 h x t p).push { cls:=.type "tuple",data:=.seq #[.none,.none] }
abbrev zs5 (h:Heap) (x:Str) (t:Tok) (p:Addr):Heap:=(zs4 h x t p).push { cls:=.type "zip",data:=.fields #[.none,.bool false,.bool false,.ref (zs2 h x t p).objs.size,.ref (zs3 h x t p).objs.size] }
end L2
namespace L2
open PySem PySem.Spec PyProof.Rows
section
variable {prog:Program} {w:World} {A:Around} {E:Value→Shared→Prop} {s:Shared}
end
section
variable {X:Cx}
def iZs (K:PySem.W.Frag) (ta:TA):TI:=fun σ H R=>ta σ H fun vs H1=>∃ (x:Str) (q:Addr) (ys:List V),vs=[.str x,.ref q]∧x.cps.all (· < 128)=true∧SqT K H1 q ys∧R (GC K x q) H1
end
end L2
namespace L2
open PySem PySem.Spec PyProof.Rows
structure ExcAt (n:Nat) (H:Hp) (h:Heap) (e:Addr) (cls:Value) (dx:Option Addr):Prop where
 ge:n≤e
 free:H e=none
 rcd:∃ oe vs,h.get? e=some oe∧oe.cls=cls∧oe.dict=dx∧oe.data=.fields vs∧1 < vs.size∧
  (vs[1]?=some .none∨∃ T oT ts,vs[1]?=some (.ref T)∧n≤T∧T≠e∧H T=none∧h.get? T=some oT∧oT.data=.fields ts∧ts[3]?=some .none)
structure Lv (n:Nat) (H:Hp) (fs:List Addr) (h h':Heap):Prop where
 keep:∀ b o,h.get? b=some o→b∉fs→(b < n∨H b≠none)→h'.get? b=some o
 slot:∀ b o,h.get? b=some o→b∈fs→∃ sl,h'.get? b=some { o with slots:=sl }
 there:∀ b o,h.get? b=some o→∃ o',h'.get? b=some o'
section
variable {M:Model} {A:Around} {E:Value→Shared→Prop} {s:Shared} {base:Heap} {env:Env} {outer:List Env} {L e:Addr} {n:Nat} {H:Hp} {cls:Value} {dx:Option Addr}
def CX1 (P:Program) (w:World) (base:Heap):CXT:=fun outer H s E ev s'=>∃ e cls dx H',ev=.ref e∧s'.os=s.os∧AllBare s'.gens∧Un (frs outer) [] H H' s.heap s'.heap∧HOk P w H' s'.heap∧s'.heap.FunFrames base outer∧ExcAt s.heap.objs.size H' s'.heap e cls dx∧E cls dx H'
end
end L2
namespace L2
open PySem PySem.Spec PyProof.Rows
section
variable {P:Program} {w:World} {K:PySem.W.Frag} {mg:Str→Option Value} {base:Heap} {N:List Str} {qual:Str} {scope:Scope} {f:Addr} {cd:Value} {A:Around} {outer:List Env} {s:Shared} {H:Hp} {E:XK}
end
end L2
namespace L2
open PySem PySem.Spec PyProof.Rows PySem.W
def jC (K:Frag) (C:Addr) (B newId:String):Bool:=match K.lookup C with
 | some ⟨oc,_,.cls cd,sl⟩=>oc == .type "type" && !cd.hasDel && (sl.toList[4]?).join == some (.builtin newId) && !cd.mro.isEmpty && cd.mro.contains (.ref C) && cd.mro.contains (.type B) && !cd.mro.contains (.type "AttributeError") && !cd.mro.contains (.type "NameError") &&
   cd.mro.contains (.type "BaseException") && specialIn K (.ref C) "__call__" == some (some (.builtin "type.__call__")) && instIn K (.ref C) (.type "type") == some true
 | _=>false
structure Gw (M:Model) (h:Heap) (C:Addr) (B newId:String):Prop where
 obj:∃ oc od cd sl,h.get? C=some ⟨oc,od,.cls cd,sl⟩∧oc=.type "type"∧cd.hasDel=false∧cd.mro.isEmpty=false
 made:Looks M h (Bind.madeBy (.ref C)) (some newId)
 base:Looks M h (Bind.staticBase (.ref C)) (.ref C)
 under:∀ b r,(b,r)∈[(Value.ref C,true),(.type B,true),(.type "BaseException",true),(.type "AttributeError",false),(.type "NameError",false)]→Looks M h (isSubtype (.ref C) b) r
 dunder:Looks M h (specialOf (.ref C) ("__call__":Str)) (some (Value.builtin "type.__call__"))
 isTy:Looks M h (isInstance (.ref C) (.type "type")) true
abbrev ES (vs:List Value):Obj:={ cls:=.type "tuple",data:=.seq vs.toArray }
abbrev F7 (C t:Addr):Obj:={ cls:=.ref C,data:=.fields #[.ref t,.none,.none,.none,.bool false,.none] }
section
variable {prog:Program} {w:World} {A:Around} {K:Frag} {C:Addr} {R:Result→Shared→Prop} {h:Heap} {g:Array GenState} {d:Drawn} {t:Nat} {os:OsState}
end
end L2
namespace L2
open PySem PySem.Spec PyProof.Rows
def kU (e C:Addr) (dx:Option Addr):HO:=HO.ext fun h=>∃ t,h.get? e=some { cls:=.ref C,dict:=dx,data:=.fields #[.ref t,.none,.none,.none,.bool false,.none] }
def del (H:Hp) (a:Addr):Hp:=fun b=>if b=a then none else H b
section
variable {P:Program} {w:World} {K:PySem.W.Frag} {mg:Str→Option Value} {base:Heap} {N:List Str} {qual:Str} {scope:Scope} {f:Addr} {cd:Value} {A:Around} {outer:List Env} {s:Shared} {H:Hp} {E:XK}
end
def Raises (X:Cx) (E:XK):Prop:=∀ (pins:List (Addr×Obj)) (σ:St) (H2:Hp) (s':Shared) (e C:Addr) (dx:Option Addr),Inv X pins σ H2 s'→X.s₀.heap.objs.size≤e→H2 e=some (kU e C dx)→E (.ref C) dx (del H2 e)→X.xe (.ref e) s'
structure XMk (K:PySem.W.Frag) (C f:Addr):Prop where
 makes:jC K C "ValueError" "ValueError.__new__"=true
 init:PySem.W.findIn K (.ref C) "__init__"=some (some (.ref f))
 fn:PySem.W.isFn K (.ref f)=true
 kp:PySem.W.keepIn K (.ref C)=true
section
variable {X:Cx} {CX:CXT} {k:Nat} {f C:Addr} {fd:FuncData} {ps:List Str} {sp:Sp} {dvs:List V} {ds:List Value} {E E':XK} {x m:Str} {p pos apos cpos:Pos} {e o:Expr} {es:List Expr} {ta:TE} {t:TA}
def E6 (C:Addr) (sp:Sp) (dvs:List V) (E' E:XK) (t:TA):TS:=fun _ σ H=>t σ H fun vs H1=>∀ x,H1 x=none→sp (.ref x::(vs++dvs)) (upd H1 x (kU x C none)) (fun v H2=>v=.non∧∃ dx,H2 x=some (kU x C dx)∧E (.ref C) dx (del H2 x)) E'
end
end L2
namespace L2
open PySem PySem.Spec PyProof.Rows
open Builtin Builtin.ObjectAttr
def qx:List Value→Bool
 | .ref _::r=>qx r
 | l=>l == [.type "ValueError",.type "Exception",.type "BaseException",.type "object"]
abbrev G5 (prog:Program) (w:World) (A:Around) (R:Result→Shared→Prop) (fin:PySem.Fin) (s1:Shared):Prop:=match fin with
 | .done fl=>R (.ok fl) s1
 | .again nxt=>nxt.quiet=true∧codeAny (model prog w) A nxt R s1
structure EA (K:PySem.W.Frag) (C:Addr):Prop where
 hd:PySem.W.hasDictIn K C=true
 po:(PySem.W.clsIn K C).any (fun cd=>qx cd.mro)=true
 sa:PySem.W.findIn K (.ref C) "__setattr__"=some (some (.builtin "object.__setattr__"))
section
variable {prog:Program} {w:World} {A:Around} {E:Value→Shared→Prop} {s:Shared} {K:PySem.W.Frag} {e C:Addr} {name:Str} {v:Value} {R:Result→Shared→Prop}
open PySem.W in
end
end L2
namespace L2
open PySem PySem.Spec PyProof.Rows
def XdO (d:Addr) (fs:List (Str×V)):HO:=HO.ext fun h=>∃ mA,h.Ns1 d mA∧(∀ f,my (fs.lookup f) (mA f))∧PySem.Within mA (fs.map (·.1))
section
variable {X:Cx} {pins:List (Addr×Obj)} {σ:St} {H:Hp} {s:Shared} {A:Around} {E:Value→Shared→Prop} {e C d:Addr} {f:Str} {fs:List (Str×V)}
end
def GP (K:PySem.W.Frag) (ta tv:TE) (f:Str):TS:=fun D σ H=>tv σ H fun y H1=>ta σ H1 fun x H2=>∃ e C,x=.ref e∧EA K C∧PySem.W.takerIn K C f=some none∧
 ((H2 e=some (kU e C none)∧∀ d,H2 d=none→d≠e→D.nx σ (upd (upd H2 d (XdO d [(f,y)])) e (kU e C (some d))))∨
  ∃ d fs,H2 e=some (kU e C (some d))∧H2 d=some (XdO d fs)∧d≠e∧fs.length < 1000∧D.nx σ (upd H2 d (XdO d (gE f y fs))))
section
variable {X:Cx} {CX:CXT} {k:Nat} {g C:Addr} {fd:FuncData} {ps:List Str} {sp:Sp} {dvs:List V} {ds:List Value} {E:XK} {x m f:Str} {p pos pos' apos:Pos} {e o value:Expr} {es:List Expr} {ta tv:TE} {t:TA} {mc:Value}
end
end L2
namespace L2
open PySem PySem.Spec PyProof.Rows
namespace XI
open PySem.W
end XI
section
variable {prog:Program} {w:World} {A:Around} {E:Value→Shared→Prop} {s:Shared} {K:PySem.W.Frag} {e C t:Addr} {dx:Option Addr} {u:Value}
end
def E4 (K:PySem.W.Frag) (t:TA):TE:=fun σ H Q=>t σ H fun vs H2=>∃ e C dx y,vs=[.ref e,y]∧jC K C "ValueError" "ValueError.__new__"=true∧H2 e=some (kU e C dx)∧Q .non H2
section
variable {X:Cx} {p pos apos:Pos} {a:Expr} {es:List Expr} {t:TA}
end
end L2
namespace L2
open PySem PySem.Spec PyProof.Rows
structure XAt (X:Cx) (pins:List (Addr×Obj)) (n:Nat):Prop where
 s0:X.s₀.heap.objs.size≤n
 loc:X.env.locals < n
 cel:∀ x c,X.env.cells.lookup x=some c→c < n
 pin:∀ p∈X.pn++pins,p.1 < n
section
variable {X:Cx} {pins:List (Addr×Obj)} {σ:St} {H:Hp} {s:Shared} {n:Nat} {h':Heap} {e L:Addr} {cls:Value} {dx:Option Addr} {M:Model} {E:Value→Shared→Prop}
end
def XP (X:Cx) (W:St→XK) (ev:Value) (s':Shared):Prop:=∃ e cls dx H' σ' n,ev=.ref e∧Inv X [] σ' H' s'∧XAt X [] n∧ExcAt n H' s'.heap e cls dx∧W σ' cls dx H'
def ET (CX:CXT) (X:Cx) (E:St→XK):Prop:=∀ (pins:List (Addr×Obj)) (σ:St) (H:Hp) (s:Shared) (e:Value) (s':Shared),Inv X pins σ H s→CX X.stack H s (E σ) e s'→X.xe e s'
end L2
namespace L2
open PySem PySem.Spec PyProof.Rows
section
variable {X:Cx} {pins:List (Addr×Obj)} {σ:St} {H:Hp} {s:Shared} {n:Nat} {e:Addr} {cls:Value} {dx:Option Addr}
def zr (e:Addr) (cls:Value) (dx:Option Addr):HO:=HO.ext fun h=>∃ o vs,h.get? e=some o∧o.cls=cls∧o.dict=dx∧o.data=.fields vs
end
end L2
namespace L2
open PySem PySem.Spec PyProof.Rows
structure HJ (K:PySem.W.Frag) (C:Addr):Prop where
 ty:PySem.W.typeIn K (.ref C)=some (.type "type")
 ex:PySem.W.mroIn K C (.type "BaseException")=some true
section
variable {prog:Program} {w:World} {A:Around} {E:Value→Shared→Prop} {s:Shared} {K:PySem.W.Frag} {e C C₀:Addr} {oe:Obj} {b:Bool} {Q:Bool→Shared→Prop}
end
abbrev Cx.Hy (X:Cx) (pins:List (Addr×Obj)):Cx:={ X with pn:=X.pn++pins }
abbrev Cx.sui (X:Cx) (e:Addr):Cx:={ X with A:=X.A.mark (some (.ref e)),calm:=false,xe:=fun _ _=>False }
section
variable {X:Cx} {pins:List (Addr×Obj)} {σ:St} {H:Hp} {s:Shared} {e:Addr}
end
def Ends.yI (D:Ends) (i:Nat):Ends:=⟨fun σ H=>D.nx (σ.set i none) H,D.rt,fun σ H=>D.bk (σ.set i none) H,fun σ H=>D.ct (σ.set i none) H⟩
def EY (K:PySem.W.Frag) (C₀:Addr) (i:Nat) (ts:TS) (D:Ends):St→XK:=fun σ' cls dx H'=>∃ C,cls=.ref C∧PySem.W.mroIn K C (.ref C₀)=some true∧∀ e,H' e=none→ts (D.yI i) (σ'.set i (some (.ref e))) (upd H' e (zr e cls dx))
def G_ (K:PySem.W.Frag) (C₀:Addr) (i:Nat) (tb:(St→XK)→TS) (ts:TS):TS:=fun D σ H=>tb (EY K C₀ i ts D) D σ H
section
variable {X:Cx} {x nm:Str} {i:Nat} {C₀ L:Addr} {body suite:List Stmt} {b₀:Stmt} {np hpos pos:Pos} {tb:(St→XK)→TS} {ts:TS}
end
end L2
namespace L2
open PySem PySem.Spec PyProof.Rows
def Fe (sp:Sp) (dvs:List V) (E:St→XK) (t:TA):TE:=fun σ H Q=>t σ H fun vs H1=>sp (vs++dvs) H1 Q (E σ)
def E7 (C:Addr) (m:Str) (sp:Sp) (dvs:List V) (E:St→XK) (ta:TE) (t:TA):TE:=fun σ H Q=>m3 C m sp dvs (E σ) ta t σ H Q
def E8 (C:Addr) (sp:Sp) (dvs:List V) (E:St→XK) (t:TA):TE:=fun σ H Q=>sj C sp dvs (E σ) t σ H Q
section
variable {X:Cx} {CX:CXT} {k:Nat} {f C:Addr} {fd:FuncData} {ps:List Str} {sp:Sp} {dvs:List V} {ds:List Value} {E:St→XK} {x m:Str} {p pos apos:Pos} {e o:Expr} {es:List Expr} {ta:TE} {t:TA}
end
end L2
namespace L2
open PySem PySem.Spec PyProof.Rows
structure Ez (K:PySem.W.Frag) (C:Addr):Prop where
 ga:PySem.W.findIn K (.ref C) "__getattribute__"=some (some (.builtin "BaseException.__getattribute__"))
 gh:PySem.W.findIn K (.ref C) "__getattr__"=some none
 hd:PySem.W.hasDictIn K C=true
 ex:PySem.W.mroIn K C (.type "BaseException")=some true
section
variable {prog:Program} {w:World} {A:Around} {E:Value→Shared→Prop} {s:Shared} {K:PySem.W.Frag} {e C dx:Addr} {name:Str} {v:Value} {mA:Str→Option Value} {oe:Obj} {vs:Array Value}
open PySem.W in
end
def GG (K:PySem.W.Frag) (ta:TE) (f:Str):TE:=fun σ H Q=>ta σ H fun x H1=>∃ e C d fs v,x=.ref e∧H1 e=some (zr e (.ref C) (some d))∧H1 d=some (XdO d fs)∧Ez K C∧eg K C f∧fs.lookup f=some v∧Q v H1
section
variable {X:Cx} {o:Expr} {f:Str} {pos:Pos} {ta:TE}
end
end L2
namespace L2
open PySem PySem.Spec PyProof.Rows
structure XIs (K:PySem.W.Frag) (C:Addr):Prop extends Ez K C where
 ca:PySem.W.findIn K (.ref C) "__class__"=some (some (.builtin "object.__class__"))
 cg:PySem.W.specialIn K (.builtin "object.__class__") "__get__"=some (some (.builtin "getset_descriptor.__get__"))
 ct:PySem.W.takesIn K (.builtin "object.__class__")=some true
 ob:PySem.W.mroIn K C (.type "object")=some true
section
variable {prog:Program} {w:World} {A:Around} {E:Value→Shared→Prop} {s:Shared} {K:PySem.W.Frag} {e C:Addr} {oe:Obj} {od:Option Obj}
open PySem.W in
open PySem.W in
end
def XDk (H:Hp):Option Addr→List (Str×V)→Prop
 | some d,gs=>H d=some (XdO d gs)
 | none,gs=>gs=[]
theorem XDk.mono {H H':Hp} (e:∀ b o,H b=some o→H' b=some o):∀ {dx:Option Addr} {gs:List (Str×V)},XDk H dx gs→XDk H' dx gs
 | some _,_,h=>e _ _ h
 | none,_,h=>h
end L2
namespace L2
open PySem PySem.Spec PyProof.Rows
def vv:V→Value
 | .ref a=>.ref a
 | .ty n=>.type n
 | _=>.none
def isC:V→Bool
 | .ref _=>true
 | .ty _=>true
 | _=>false
theorem CH {x:V} {u:Value} (h:isC x=true) (r:RelV x u):u=vv x:=by
 cases x with
 | ref a=>exact r
 | ty n=>exact r
 | _=>cases h
section
variable {X:Cx}
end
end L2
namespace L3
open PySem L2
inductive D where
 | non | bl (b:Bool) | int (i:Int) | str (x:Str) | lst (xs:List D) | tup (xs:List D) | ktup (xs:List D) | ins (C:Addr) (ns:List Str) (xs:List D) | scr (ns:List Int) | ty (n:String) | adr (a:Addr) | cel (p:Addr) (xs:List D) | exc (C:Addr) (ns:List Str) (xs:List D) | dct | dcs (k:Str) (i:Int)
mutual
def Rep (K:PySem.W.Frag) (F:Hp):D→V→Prop
 | .non,v=>v=.non
 | .bl b,v=>v=.bl b
 | .int i,v=>v=.int i
 | .str x,v=>v=.str x
 | .ty n,v=>v=.ty n
 | .adr a,v=>v=.ref a
 | .cel p xs,v=>v=.ref p∧∃ vs,F p=some (.lst vs)∧av K F xs vs
 | .scr ns,v=>∃ p,v=.ref p∧SqL K F p (ns.map V.int)
 | .lst xs,v=>∃ p vs,v=.ref p∧F p=some (.lst vs)∧av K F xs vs
 | .tup xs,v=>∃ p vs,v=.ref p∧F p=some (.tup vs)∧av K F xs vs
 | .ktup xs,v=>∃ p vs,v=.ref p∧SqT K F p vs∧av K F xs vs
 | .ins C ns xs,v=>∃ p dx gs,v=.ref p∧F p=some (.ins C dx gs)∧gs.map (·.1)=ns∧av K F xs (gs.map (·.2))
 | .dct,v=>∃ p,v=.ref p∧F p=some (.dK [])
 | .dcs k i,v=>∃ p,v=.ref p∧F p=some (.dK [(.inr k,.int i)])
 | .exc C ns xs,v=>∃ p d gs,v=.ref p∧F p=some (zr p (.ref C) d)∧XDk F d gs∧gs.map (·.1)=ns∧av K F xs (gs.map (·.2))
def av (K:PySem.W.Frag) (F:Hp):List D→List V→Prop
 | [],vs=>vs=[]
 | x::xs,vs=>∃ v ws,vs=v::ws∧Rep K F x v∧av K F xs ws
end
theorem SqT.same {K:PySem.W.Frag} {H H':Hp} {a:Addr} {xs:List V} (e:aE H H') (h:SqT K H a xs):SqT K H' a xs:=by
 rcases h with (h | ⟨o,h⟩) | h
 ·exact .inl (.inl (e _ _ h))
 ·exact .inl (.inr ⟨o,e _ _ h⟩)
 ·exact .inr h
mutual
theorem Rep.mono {K:PySem.W.Frag} {F F':Hp} (e:aE F F'):∀ {d:D} {v:V},Rep K F d v→Rep K F' d v
 | .non,_,h=>h
 | .bl _,_,h=>h
 | .int _,_,h=>h
 | .str _,_,h=>h
 | .ty _,_,h=>h
 | .adr _,_,h=>h
 | .cel _ _,_,⟨h1,vs,h2,h3⟩=>⟨h1,vs,e _ _ h2,av.mono e h3⟩
 | .scr _,_,⟨p,h1,h2⟩=>⟨p,h1,e.seq h2⟩
 | .lst _,_,⟨p,vs,h1,h2,h3⟩=>⟨p,vs,h1,e _ _ h2,av.mono e h3⟩
 | .tup _,_,⟨p,vs,h1,h2,h3⟩=>⟨p,vs,h1,e _ _ h2,av.mono e h3⟩
 | .ktup _,_,⟨p,vs,h1,h2,h3⟩=>⟨p,vs,h1,SqT.same e h2,av.mono e h3⟩
 | .ins _ _ _,_,⟨p,dx,gs,h1,h2,h3,h4⟩=>⟨p,dx,gs,h1,e _ _ h2,h3,av.mono e h4⟩
 | .dct,_,⟨p,h1,h2⟩=>⟨p,h1,e _ _ h2⟩
 | .dcs _ _,_,⟨p,h1,h2⟩=>⟨p,h1,e _ _ h2⟩
 | .exc _ _ _,_,⟨p,dx,gs,h1,h2,h5,h3,h4⟩=>⟨p,dx,gs,h1,e _ _ h2,h5.mono e,h3,av.mono e h4⟩
theorem av.mono {K:PySem.W.Frag} {F F':Hp} (e:aE F F'):∀ {xs:List D} {vs:List V},av K F xs vs→av K F' xs vs
 | [],_,h=>h
 | _::_,_,⟨v,ws,h1,h2,h3⟩=>⟨v,ws,h1,Rep.mono e h2,av.mono e h3⟩
end
end L3
namespace L3
open PySem L2
inductive Sl where
 | fz (d:D) | ow (d:D) | ln (d:D)
abbrev G:=List (Option Sl)
inductive RV where
 | fz (d:D) | fr (d:D) | two (xs ys:List D) | rws (xss:List (List D))
def RV.pl:RV→Bool
 | .fz _=>true
 | .fr _=>true
 | _=>false
def RV.d:RV→D
 | .fz d=>d
 | .fr d=>d
 | .two xs ys=>.tup [.lst xs,.lst ys]
 | .rws xss=>.lst (xss.map .lst)
def RV.sl:RV→Sl
 | .fz d=>.fz d
 | .fr d=>.ow d
 | .two xs ys=>.fz (.tup [.lst xs,.lst ys])
 | .rws xss=>.ow (.lst (xss.map .lst))
structure Bs where
 F:Hp
 H:Hp
 own:List (Nat×Addr)
def Own (K:PySem.W.Frag) (F H:Hp) (p:Addr):D→Prop
 | .lst xs=>∃ vs,H p=some (.lst vs)∧av K F xs vs
 | .cel q xs=>p=q∧∃ vs,H p=some (.lst vs)∧av K F xs vs
 | .ins C ns xs=>∃ dx gs,H p=some (.ins C dx gs)∧gs.map (·.1)=ns∧av K F xs (gs.map (·.2))
 | _=>False
theorem Own.mono {K:PySem.W.Frag} {F F' H H':Hp} {p:Addr} (e:aE F F') (h:H' p=H p):∀ {d:D},Own K F H p d→Own K F' H' p d
 | .lst _,⟨vs,a,b⟩=>⟨vs,h.trans a,b.mono e⟩
 | .cel _ _,⟨z,vs,a,b⟩=>⟨z,vs,h.trans a,b.mono e⟩
 | .ins _ _ _,⟨dx,gs,a,b,c⟩=>⟨dx,gs,h.trans a,b,c.mono e⟩
theorem Own.some {K:PySem.W.Frag} {F H:Hp} {p:Addr}:∀ {d:D},Own K F H p d→∃ o,H p=some o
 | .lst _,⟨_,a,_⟩=>⟨_,a⟩
 | .cel _ _,⟨_,_,a,_⟩=>⟨_,a⟩
 | .ins _ _ _,⟨_,_,a,_⟩=>⟨_,a⟩
theorem Own.rep {K:PySem.W.Frag} {F H:Hp} {p:Addr} {o:HO} (hF:F p=none) (ho:H p=Option.some o):∀ {d:D},Own K F H p d→Rep K (upd F p o) d (.ref p)
 | .lst _,⟨vs,a,b⟩=>by
  rw[ho] at a;cases a
  exact⟨p,vs,rfl,aD,b.mono fun x u e=>by rw[ak (bL e hF)];exact e⟩
 | .cel _ _,⟨z,vs,a,b⟩=>by
  rw[ho] at a;cases a
  subst z
  exact⟨rfl,vs,aD,b.mono fun x u e=>by rw[ak (bL e hF)];exact e⟩
 | .ins _ _ _,⟨dx,gs,a,b,c⟩=>by
  rw[ho] at a;cases a
  exact⟨p,dx,gs,rfl,aD,b,c.mono fun x u e=>by rw[ak (bL e hF)];exact e⟩
def Hld (Γ:G) (i:Nat) (d:D):Prop:=Γ[i]?=some (some (Sl.ow d))∨Γ[i]?=some (some (Sl.ln d))
structure En (K:PySem.W.Frag) (B:Bs) (F:Hp) (σ:St) (H:Hp) (Γ:G):Prop where
 sub:aE F H
 len:σ.length=Γ.length
 fz:∀ (i:Nat) (d:D),Γ[i]?=some (some (Sl.fz d))→∃ v,σ[i]?=some (some v)∧Rep K F d v
 hl:∀ (i:Nat) (d:D),Hld Γ i d→∃ p,σ[i]?=some (some (V.ref p))∧F p=none∧Own K F H p d
 ow:∀ (i:Nat) (d:D) (p:Addr),Γ[i]?=some (some (Sl.ow d))→σ[i]?=some (some (V.ref p))→B.H p=none
 ln:∀ (i:Nat) (d:D) (p:Addr),Γ[i]?=some (some (Sl.ln d))→σ[i]?=some (some (V.ref p))→(i,p)∈B.own
 dis:∀ (i j:Nat) (d e:D) (p:Addr),Hld Γ i d→Hld Γ j e→σ[i]?=some (some (V.ref p))→σ[j]?=some (some (V.ref p))→i=j
 par:∀ (i:Nat) (p:Addr),(i,p)∈B.own→σ[i]?=some (some (V.ref p))∧∃ d,Γ[i]?=some (some (Sl.ln d))
 keep:aE B.F F
 new:∀ (b:Addr) (o:HO),F b=some o→B.F b=some o∨B.H b=none
 rest:∀ (b:Addr) (o:HO),B.H b=some o→(∀ i,(i,b)∉B.own)→H b=some o
 dom:∀ b,H b=none→B.H b=none
section
variable {K:PySem.W.Frag} {B:Bs} {F:Hp} {σ:St} {H:Hp} {Γ:G}
theorem En.alloc (e:En K B F σ H Γ) {l:Addr} (hl:H l=none) (o:HO):En K B F σ (upd H l o) Γ where
 sub:=fun b u h=>by rw[ak (bL (e.sub b u h) hl)];exact e.sub b u h
 len:=e.len
 fz:=e.fz
 hl:=fun i d h=>by
  obtain⟨p,h1,h2,h3⟩:=e.hl i d h
  obtain⟨u,hu⟩:=h3.some
  exact⟨p,h1,h2,h3.mono (aE.refl F) (ak (bL hu hl))⟩
 ow:=e.ow
 ln:=e.ln
 dis:=e.dis
 par:=e.par
 keep:=e.keep
 new:=e.new
 rest:=fun b u h n=>by rw[ak (bL (e.rest b u h n) hl)];exact e.rest b u h n
 dom:=fun b h=>by
  by_cases q:b=l
  ·subst q;exact e.dom _ hl
  ·rw[ak q] at h;exact e.dom b h
theorem bw {F:Hp} {l:Addr} {o:HO} (h:F l=none):aE F (upd F l o):=fun b u e=>by rw[ak (bL e h)];exact e
theorem En.freeze (e:En K B F σ H Γ) {l:Addr} {o:HO} (hF:F l=none) (hH:H l=some o) (hB:B.H l=none) (hn:∀ (i:Nat) (d:D),Hld Γ i d→σ[i]?≠some (some (V.ref l))):En K B (upd F l o) σ H Γ where
 sub:=fun b u h=>by
  by_cases q:b=l
  ·subst q;rw[aD] at h;cases h;exact hH
  ·rw[ak q] at h;exact e.sub b u h
 len:=e.len
 fz:=fun i d h=>by
  obtain⟨v,h1,h2⟩:=e.fz i d h
  exact⟨v,h1,h2.mono (bw hF)⟩
 hl:=fun i d h=>by
  obtain⟨p,h1,h2,h3⟩:=e.hl i d h
  have q:p≠l:=fun z=>hn i d h (z ▸ h1)
  exact⟨p,h1,by rw[ak q];exact h2,h3.mono (bw hF) rfl⟩
 ow:=e.ow
 ln:=e.ln
 dis:=e.dis
 par:=e.par
 keep:=e.keep.trans (bw hF)
 new:=fun b u h=>by
  by_cases q:b=l
  ·subst q;exact .inr hB
  ·rw[ak q] at h;exact e.new b u h
 rest:=e.rest
 dom:=e.dom
def dd (K:PySem.W.Frag) (F H:Hp):List Addr→List (List D)→Prop
 | [],xss=>xss=[]
 | q::qs,xss=>∃ xs xt vs,xss=xs::xt∧H q=some (.lst vs)∧av K F xs vs∧dd K F H qs xt
theorem dd.mono {F F' H H':Hp} (s:aE F F'):∀ {qs:List Addr} {xss:List (List D)},(∀ q∈qs,H' q=H q)→dd K F H qs xss→dd K F' H' qs xss
 | [],_,_,h=>h
 | q::qs,_,e,⟨xs,xt,vs,h1,h2,h3,h4⟩=>⟨xs,xt,vs,h1,(e q (.head _)).trans h2,h3.mono s,dd.mono s (fun z hz=>e z (.tail _ hz)) h4⟩
def dC (K:PySem.W.Frag) (B:Bs) (F:Hp) (σ:St) (H:Hp) (Γ:G) (v:V):RV→Prop
 | .fz d=>Rep K F d v
 | .fr d=>∃ p,v=.ref p∧F p=none∧Own K F H p d∧B.H p=none∧∀ (i:Nat) (e:D),Hld Γ i e→σ[i]?≠some (some (V.ref p))
 | .rws xss=>∃ p qs,v=.ref p∧H p=some (.lst (qs.map V.ref))∧(p::qs).Nodup∧dd K F H qs xss∧∀ z,z∈p::qs→F z=none∧B.H z=none∧∀ (i:Nat) (e:D),Hld Γ i e→σ[i]?≠some (some (V.ref z))
 | .two xs ys=>∃ t p q vs ws,v=.ref t∧H t=some (.tup [.ref p,.ref q])∧H p=some (.lst vs)∧H q=some (.lst ws)∧av K F xs vs∧av K F ys ws∧p≠q∧∀ z,z=t∨z=p∨z=q→F z=none∧B.H z=none∧∀ (i:Nat) (e:D),Hld Γ i e→σ[i]?≠some (some (V.ref z))
theorem En.sZ:∀ {qs:List Addr} {xss:List (List D)} {F:Hp},En K B F σ H Γ→dd K F H qs xss→qs.Nodup→(∀ z∈qs,F z=none∧B.H z=none∧∀ (i:Nat) (e:D),Hld Γ i e→σ[i]?≠some (some (V.ref z)))→
  ∃ F',aE F F'∧En K B F' σ H Γ∧av K F' (xss.map .lst) (qs.map V.ref)∧∀ z,z∉qs→F' z=F z
 | [],_,F,e,h,_,_=>by cases h;exact⟨F,aE.refl F,e,rfl,fun _ _=>rfl⟩
 | q::qs,_,F,e,⟨xs,xt,vs,h1,h2,h3,h4⟩,nd,hn=>by
  subst h1
  obtain⟨n1,n2⟩:=List.nodup_cons.mp nd
  obtain⟨a1,a2,a3⟩:=hn q (.head _)
  have e1:=e.freeze a1 h2 a2 a3
  have s1:=bw (o:=.lst vs) a1
  obtain⟨F',s',e',r',k'⟩:=En.sZ (qs:=qs) e1 (h4.mono s1 fun _ _=>rfl) n2 fun z hz=>by
   obtain⟨b1,b2,b3⟩:=hn z (.tail _ hz)
   exact⟨by rw[ak (a:=q) (b:=z) (fun w=>n1 (by rw[← w];exact hz))];exact b1,b2,b3⟩
  refine⟨F',s1.trans s',e',⟨_,_,rfl,⟨q,vs,rfl,s' _ _ aD,h3.mono (s1.trans s')⟩,r'⟩,fun z hz=>?_⟩
  rw[List.mem_cons,not_or] at hz
  rw[k' z hz.2,ak hz.1]
theorem En.n4 (e:En K B F σ H Γ) {p:Addr} {qs:List Addr} {xss:List (List D)} (hp:H p=some (.lst (qs.map V.ref))) (nd:(p::qs).Nodup) (r:dd K F H qs xss) (hn:∀ z,z∈p::qs→F z=none∧B.H z=none∧∀ (i:Nat) (e:D),Hld Γ i e→σ[i]?≠some (some (V.ref z))) :
  ∃ F',aE F F'∧En K B F' σ H Γ∧F' p=none∧Own K F' H p (.lst (xss.map .lst)):=by
 obtain⟨n1,n2⟩:=List.nodup_cons.mp nd
 obtain⟨F',s',e',r',k'⟩:=e.sZ r n2 fun z hz=>hn z (.tail _ hz)
 exact⟨F',s',e',(k' p n1).trans (hn p (.head _)).1,_,hp,r'⟩
theorem En.frozen (e:En K B F σ H Γ) {v:V}:∀ {r:RV},dC K B F σ H Γ v r→∃ F',aE F F'∧En K B F' σ H Γ∧Rep K F' r.d v
 | .fz d,h=>⟨F,aE.refl F,e,h⟩
 | .fr d,⟨p,hv,h1,h2,h3,h4⟩=>by
  subst hv
  obtain⟨o,ho⟩:=h2.some
  exact⟨upd F p o,bw h1,e.freeze h1 ho h3 h4,h2.rep h1 ho⟩
 | .rws xss,⟨p,qs,hv,h1,h2,h3,h4⟩=>by
  subst hv
  obtain⟨F',s',e',f',o'⟩:=e.n4 h1 h2 h3 h4
  obtain⟨_,b2,b3⟩:=h4 p (.head _)
  exact⟨_,s'.trans (bw f'),e'.freeze f' h1 b2 b3,o'.rep f' h1⟩
 | .two xs ys,⟨t,p,q,vs,ws,hv,h1,h2,h3,h4,h5,h6,h7⟩=>by
  subst hv
  obtain⟨a1,a2,a3⟩:=h7 t (.inl rfl)
  obtain⟨b1,b2,b3⟩:=h7 p (.inr (.inl rfl))
  obtain⟨c1,c2,c3⟩:=h7 q (.inr (.inr rfl))
  have tp:t≠p:=fun z=>by rw[z,h2] at h1;cases h1
  have tq:t≠q:=fun z=>by rw[z,h3] at h1;cases h1
  have e1:=e.freeze b1 h2 b2 b3
  have f2:upd F p (.lst vs) q=none:=by rw[ak (Ne.symm h6)];exact c1
  have e2:=e1.freeze f2 h3 c2 c3
  have f3:upd (upd F p (.lst vs)) q (.lst ws) t=none:=by rw[ak tq,ak tp];exact a1
  have e3:=e2.freeze f3 h1 a2 a3
  have s1:=bw (o:=.lst vs) b1
  have s2:=bw (o:=.lst ws) f2
  have s3:=bw (o:=.tup [.ref p,.ref q]) f3
  exact⟨_,(s1.trans s2).trans s3,e3,t,_,rfl,aD,⟨_,_,rfl,⟨p,vs,rfl,by rw[ak (Ne.symm tp),ak h6];exact aD,(h4.mono ((s1.trans s2).trans s3))⟩,_,_,rfl,⟨q,ws,rfl,by rw[ak (Ne.symm tq)];exact aD,h5.mono ((s1.trans s2).trans s3)⟩,rfl⟩⟩
theorem En.norm (e:En K B F σ H Γ) {v:V}:∀ {r:RV},dC K B F σ H Γ v r→∃ F' r',aE F F'∧En K B F' σ H Γ∧dC K B F' σ H Γ v r'∧r'.sl=r.sl∧r'.pl=true
 | .fz d,h=>⟨F,.fz d,aE.refl F,e,h,rfl,rfl⟩
 | .fr d,h=>⟨F,.fr d,aE.refl F,e,h,rfl,rfl⟩
 | .rws xss,⟨p,qs,hv,h1,h2,h3,h4⟩=>by
  subst hv
  obtain⟨F',s',e',f',o'⟩:=e.n4 h1 h2 h3 h4
  obtain⟨_,b2,b3⟩:=h4 p (.head _)
  exact⟨F',.fr (.lst (xss.map .lst)),s',e',⟨p,rfl,f',o',b2,b3⟩,rfl,rfl⟩
 | .two xs ys,h=>by
  obtain⟨F',s,e',r⟩:=e.frozen h
  exact⟨F',.fz (.tup [.lst xs,.lst ys]),s,e',r,rfl,rfl⟩
def Po (K:PySem.W.Frag) (B:Bs) (F:Hp) (σ:St) (Q:RV→G→Prop):VK:=fun v H'=>∃ F' Γ' r,aE F F'∧En K B F' σ H' Γ'∧dC K B F' σ H' Γ' v r∧Q r Γ'
abbrev TE3:=G→(RV→G→Prop)→Prop
def Ref (K:PySem.W.Frag) (t:TE) (t3:TE3):Prop:=∀ (B:Bs) (F:Hp) (σ:St) (H:Hp) (Γ:G) (Q:RV→G→Prop) (QQ:VK),En K B F σ H Γ→t3 Γ Q→(∀ v H',Po K B F σ Q v H'→QQ v H')→t σ H QQ
theorem Po.mono {F F':Hp} {Q:RV→G→Prop} {v:V} {H:Hp} (s:aE F F') (h:Po K B F' σ Q v H):Po K B F σ Q v H:=by
 obtain⟨F2,Γ',r,a,b⟩:=h
 exact⟨F2,Γ',r,s.trans a,b⟩
theorem gj (e:En K B F σ H Γ) {Q:RV→G→Prop} {v:V} {d:D} (r:Rep K F d v) (q:Q (.fz d) Γ):Po K B F σ Q v H:=⟨F,Γ,.fz d,aE.refl F,e,r,q⟩
theorem En.pO (e:En K B F σ H Γ) {l:Addr} (hl:H l=none):∀ (i:Nat) (d:D),Hld Γ i d→σ[i]?≠some (some (V.ref l)):=fun i d h z=>by
 obtain⟨p,h1,h2,h3⟩:=e.hl i d h
 rw[h1] at z;cases z
 obtain⟨o,ho⟩:=h3.some
 rw[hl] at ho;cases ho
theorem En.nof (e:En K B F σ H Γ) {l:Addr} (hl:H l=none):F l=none:=by
 cases q:F l with
 | none=>rfl
 | some o=>have:=e.sub _ _ q;rw[hl] at this;cases this
theorem jJ (e:En K B F σ H Γ) {Q:RV→G→Prop} {l:Addr} {vs:List V} {xs:List D} (hl:H l=none) (r:av K F xs vs) (q:Q (.fr (.lst xs)) Γ):Po K B F σ Q (.ref l) (upd H l (.lst vs)):=
 ⟨F,Γ,.fr (.lst xs),aE.refl F,e.alloc hl _,⟨l,rfl,e.nof hl,⟨vs,aD,r⟩,e.dom _ hl,e.pO hl⟩,q⟩
theorem n_ (e:En K B F σ H Γ) {Q:RV→G→Prop} {l:Addr} {vs:List V} {xs:List D} (hl:H l=none) (r:av K F xs vs) (q:Q (.fz (.tup xs)) Γ):Po K B F σ Q (.ref l) (upd H l (.tup vs)):=
 ⟨upd F l (.tup vs),Γ,.fz (.tup xs),bw (e.nof hl),(e.alloc hl _).freeze (e.nof hl) aD (e.dom _ hl) (e.pO hl),⟨l,vs,rfl,aD,r.mono (bw (e.nof hl))⟩,q⟩
def lI (i:Nat) (Γ:G) (Q:RV→G→Prop):Prop:=match Γ[i]? with
 | some (some (.fz d))=>Q (.fz d) Γ
 | some (some (.ow d))=>Q (.fz d) (Γ.set i (some (Sl.fz d)))
 | _=>False
theorem aw {α:Type} {l:List α} {i j:Nat} {a:α} (h:i≠j):(l.set i a)[j]?=l[j]?:=by rw[List.getElem?_set,if_neg h]
theorem mi {α:Type} {l:List α} {i:Nat} {a b:α} (h:l[i]?=some b):(l.set i a)[i]?=some a:=by
 rw[List.getElem?_set,if_pos rfl,if_pos (List.getElem?_eq_some_iff.mp h).1]
theorem En.give (e:En K B F σ H Γ) {i:Nat} {d:D} (h:Γ[i]?=some (some (Sl.ow d))):∃ F' p,aE F F'∧σ[i]?=some (some (V.ref p))∧Rep K F' d (.ref p)∧En K B F' σ H (Γ.set i (some (Sl.fz d))):=by
 obtain⟨p,h1,h2,h3⟩:=e.hl i d (.inl h)
 obtain⟨o,ho⟩:=h3.some
 have hr:=h3.rep h2 ho
 have back:∀ {j u},j≠i→(Γ.set i (some (Sl.fz d)))[j]?=u→Γ[j]?=u:=fun hj q=>by rw[aw (Ne.symm hj)] at q;exact q
 have hld:∀ {j x},Hld (Γ.set i (some (Sl.fz d))) j x→j≠i∧Hld Γ j x:=fun {j x} q=>by
  by_cases z:j=i
  ·subst z
   rcases q with q | q <;> rw[mi h] at q <;> cases q
  ·exact⟨z,q.imp (back z) (back z)⟩
 refine⟨upd F p o,p,bw h2,h1,hr,?_,?_,?_,?_,?_,?_,?_,?_,?_,?_,e.rest,e.dom⟩
 ·intro b u q
  by_cases z:b=p
  ·subst z;rw[aD] at q;cases q;exact ho
  ·rw[ak z] at q;exact e.sub b u q
 ·rw[List.length_set];exact e.len
 ·intro j x q
  by_cases z:j=i
  ·subst z
   rw[mi h] at q;cases q
   exact⟨_,h1,hr⟩
  ·obtain⟨v,a,b⟩:=e.fz j x (back z q)
   exact⟨v,a,b.mono (bw h2)⟩
 ·intro j x q
  obtain⟨z,q⟩:=hld q
  obtain⟨p',a,b,c⟩:=e.hl j x q
  have ne:p'≠p:=fun y=>z (e.dis j i x d p q (.inl h) (y ▸ a) h1)
  exact⟨p',a,by rw[ak ne];exact b,c.mono (bw h2) rfl⟩
 ·intro j x p' q a
  obtain⟨z,_⟩:=hld (.inl q)
  exact e.ow j x p' (back z q) a
 ·intro j x p' q a
  obtain⟨z,_⟩:=hld (.inr q)
  exact e.ln j x p' (back z q) a
 ·intro j k x y p' q1 q2
  exact e.dis j k x y p' (hld q1).2 (hld q2).2
 ·intro j p' q
  obtain⟨a,y,b⟩:=e.par j p' q
  have z:j≠i:=fun z=>by subst z;rw[h] at b;cases b
  exact⟨a,y,by rw[aw (Ne.symm z)];exact b⟩
 ·exact e.keep.trans (bw h2)
 ·intro b u q
  by_cases z:b=p
  ·subst z;exact .inr (e.ow i d _ h h1)
  ·rw[ak z] at q;exact e.new b u q
theorem xO (i:Nat):Ref K (cY i) (lI i):=by
 intro B F σ H Γ Q QQ e h k
 unfold lI at h
 split at h
 ·rename_i d q
  obtain⟨v,h1,h2⟩:=e.fz i d q
  exact⟨v,h1,k _ _ (gj e h2 h)⟩
 ·rename_i d q
  obtain⟨F',p,s,h1,h2,e'⟩:=e.give q
  exact⟨_,h1,k _ _ ⟨F',_,.fz d,s,e',h2,h⟩⟩
 ·exact h.elim
def t3C (d:D) (Γ:G) (Q:RV→G→Prop):Prop:=Q (.fz d) Γ
theorem m7 {v:V} {d:D} (h:∀ F,Rep K F d v):Ref K (tC v) (t3C d):=fun B F σ H Γ Q QQ e q k=>k _ _ (gj e (h F) q)
inductive Bo where
 | d (x:D) | v (i:Nat)
def bare:D→D
 | .cel _ xs=>.lst xs
 | .non=>.non
 | .bl b=>.bl b
 | .int i=>.int i
 | .str x=>.str x
 | .lst xs=>.lst xs
 | .tup xs=>.tup xs
 | .ktup xs=>.ktup xs
 | .ins C ns xs=>.ins C ns xs
 | .scr ns=>.scr ns
 | .ty n=>.ty n
 | .adr a=>.adr a
 | .exc C ns xs=>.exc C ns xs
 | .dct=>.dct
 | .dcs k i=>.dcs k i
def Gat (Γ:G) (i:Nat):Option D:=match Γ[i]? with
 | some (some (.fz d))=>some d
 | some (some (.ow d))=>some (bare d)
 | some (some (.ln d))=>some (bare d)
 | _=>none
def Bo.at (Γ:G):Bo→Option D
 | .d x=>some x
 | .v i=>Gat Γ i
def kF (K:PySem.W.Frag) (F:Hp) (σ:St):Bo→V→Prop
 | .d x,v=>Rep K F x v
 | .v i,v=>σ[i]?=some (some v)
def fJ (K:PySem.W.Frag) (F H:Hp):D→V→Prop
 | .lst xs,v=>∃ p vs,v=.ref p∧H p=some (.lst vs)∧av K F xs vs
 | .cel q xs,v=>v=.ref q∧∃ vs,H q=some (.lst vs)∧av K F xs vs
 | .ins C ns xs,v=>∃ p dx gs,v=.ref p∧H p=some (.ins C dx gs)∧gs.map (·.1)=ns∧av K F xs (gs.map (·.2))
 | d,v=>Rep K F d v
theorem Rep.b {K:PySem.W.Frag} {F H:Hp} (s:aE F H):∀ {d:D} {v:V},Rep K F d v→fJ K F H d v
 | .non,_,h=>h
 | .bl _,_,h=>h
 | .int _,_,h=>h
 | .str _,_,h=>h
 | .ty _,_,h=>h
 | .adr _,_,h=>h
 | .exc _ _ _,_,h=>h
 | .dct,_,h=>h
 | .dcs _ _,_,h=>h
 | .cel _ _,_,⟨h1,vs,h2,h3⟩=>⟨h1,vs,s _ _ h2,h3⟩
 | .scr _,_,h=>h
 | .tup _,_,h=>h
 | .ktup _,_,h=>h
 | .lst _,_,⟨p,vs,h1,h2,h3⟩=>⟨p,vs,h1,s _ _ h2,h3⟩
 | .ins _ _ _,_,⟨p,dx,gs,h1,h2,h3,h4⟩=>⟨p,dx,gs,h1,s _ _ h2,h3,h4⟩
theorem Own.b {K:PySem.W.Frag} {F H:Hp} {p:Addr}:∀ {d:D},Own K F H p d→fJ K F H (bare d) (.ref p)
 | .lst _,⟨vs,h1,h2⟩=>⟨p,vs,rfl,h1,h2⟩
 | .cel _ _,⟨z,vs,h1,h2⟩=>by subst z;exact⟨_,vs,rfl,h1,h2⟩
 | .ins _ _ _,⟨dx,gs,h1,h2,h3⟩=>⟨p,dx,gs,rfl,h1,h2,h3⟩
theorem kF.mono {F F':Hp} (s:aE F F'):∀ {bo:Bo} {v:V},kF K F σ bo v→kF K F' σ bo v
 | .d _,_,h=>Rep.mono s h
 | .v _,_,h=>h
theorem En.get (e:En K B F σ H Γ) {i:Nat} {d:D} (h:Gat Γ i=some d):∃ v,σ[i]?=some (some v)∧fJ K F H d v:=by
 unfold Gat at h
 split at h
 ·cases h
  rename_i q
  obtain⟨v,h1,h2⟩:=e.fz i _ q
  exact⟨v,h1,h2.b e.sub⟩
 ·cases h
  rename_i q
  obtain⟨p,h1,h2,h3⟩:=e.hl i _ (.inl q)
  exact⟨_,h1,h3.b⟩
 ·cases h
  rename_i q
  obtain⟨p,h1,h2,h3⟩:=e.hl i _ (.inr q)
  exact⟨_,h1,h3.b⟩
 ·cases h
theorem En.bo (e:En K B F σ H Γ):∀ {bo:Bo} {v:V} {d:D},kF K F σ bo v→bo.at Γ=some d→fJ K F H d v
 | .d x,v,d,h,q=>by cases q;exact Rep.b e.sub h
 | .v i,v,d,h,q=>by
  obtain⟨u,h1,h2⟩:=e.get q
  rw[show σ[i]?=some (some v) from h] at h1
  cases h1
  exact h2
abbrev TB3:=G→(Bo→G→Prop)→Prop
def PoB (K:PySem.W.Frag) (B:Bs) (F:Hp) (σ:St) (Q:Bo→G→Prop):VK:=fun v H'=>∃ F' Γ' bo,aE F F'∧En K B F' σ H' Γ'∧kF K F' σ bo v∧Q bo Γ'
def mV (K:PySem.W.Frag) (t:TE) (t3:TB3):Prop:=∀ (B:Bs) (F:Hp) (σ:St) (H:Hp) (Γ:G) (Q:Bo→G→Prop) (QQ:VK),En K B F σ H Γ→t3 Γ Q→(∀ v H',PoB K B F σ Q v H'→QQ v H')→t σ H QQ
def bor (i:Nat) (Γ:G) (Q:Bo→G→Prop):Prop:=(∃ d,Gat Γ i=some d)∧Q (.v i) Γ
def bof (a3:TE3) (Γ:G) (Q:Bo→G→Prop):Prop:=a3 Γ fun x Γ1=>Q (.d x.d) Γ1
theorem u5 (i:Nat):mV K (cY i) (bor i):=by
 intro B F σ H Γ Q QQ e ⟨⟨d,hd⟩,q⟩ k
 obtain⟨v,h1,_⟩:=e.get hd
 exact⟨v,h1,k _ _ ⟨F,Γ,.v i,aE.refl F,e,h1,q⟩⟩
theorem xN {t:TE} {a3:TE3} (h:Ref K t a3):mV K t (bof a3):=by
 intro B F σ H Γ Q QQ e q k
 refine h B F σ H Γ _ _ e q (fun v H1 ⟨F1,Γ1,x,s1,e1,r1,q1⟩=>?_)
 obtain⟨F1',s1',e1',r1'⟩:=e1.frozen r1
 exact k _ _ ⟨F1',Γ1,.d x.d,s1.trans s1',e1',r1',q1⟩
def j4 (K:PySem.W.Frag) (r:R2) (op:D→D→TE3):Prop:=∀ (B:Bs) (F:Hp) (σ:St) (H:Hp) (Γ:G) (x y:V) (dx dy:D) (Q:RV→G→Prop) (QQ:VK),En K B F σ H Γ→fJ K F H dx x→fJ K F H dy y→op dx dy Γ Q→(∀ v H',Po K B F σ Q v H'→QQ v H')→r x y H QQ
def kM (op:D→D→TE3) (a3 b3:TB3) (Γ:G) (Q:RV→G→Prop):Prop:=a3 Γ fun x Γ1=>b3 Γ1 fun y Γ2=>∃ dx dy,x.at Γ2=some dx∧y.at Γ2=some dy∧op dx dy Γ2 Q
theorem gD {r:R2} {ta tb:TE} {a3 b3:TB3} {op:D→D→TE3} (h:j4 K r op) (ha:mV K ta a3) (hb:mV K tb b3):Ref K (tOp r ta tb) (kM op a3 b3):=by
 intro B F σ H Γ Q QQ e q k
 refine ha B F σ H Γ _ _ e q (fun v H1 ⟨F1,Γ1,x,s1,e1,r1,q1⟩=>?_)
 refine hb B F1 σ H1 Γ1 _ _ e1 q1 (fun u H2 ⟨F2,Γ2,y,s2,e2,r2,dx,dy,h1,h2,q2⟩=>?_)
 exact h B F2 σ H2 Γ2 v u dx dy Q QQ e2 (e2.bo (r1.mono s2) h1) (e2.bo r2 h2) q2 fun z H3 p=>k z H3 (p.mono (s1.trans s2))
def uO (op:D→TE3) (a3:TB3) (Γ:G) (Q:RV→G→Prop):Prop:=a3 Γ fun x Γ1=>∃ dx,x.at Γ1=some dx∧op dx Γ1 Q
def EB (K:PySem.W.Frag) (r:V→Hp→VK→Prop) (op:D→TE3):Prop:=∀ (B:Bs) (F:Hp) (σ:St) (H:Hp) (Γ:G) (x:V) (dx:D) (Q:RV→G→Prop) (QQ:VK),En K B F σ H Γ→fJ K F H dx x→op dx Γ Q→(∀ v H',Po K B F σ Q v H'→QQ v H')→r x H QQ
theorem u7 {r:V→Hp→VK→Prop} {ta:TE} {a3:TB3} {op:D→TE3} (h:EB K r op) (ha:mV K ta a3):Ref K (fun σ H Q=>ta σ H fun x H1=>r x H1 Q) (uO op a3):=by
 intro B F σ H Γ Q QQ e q k
 refine ha B F σ H Γ _ _ e q (fun v H1 ⟨F1,Γ1,x,s1,e1,r1,dx,h1,q1⟩=>?_)
 exact h B F1 σ H1 Γ1 v dx Q QQ e1 (e1.bo r1 h1) q1 fun z H3 p=>k z H3 (p.mono s1)
end
end L3
namespace L3
open PySem L2 PySem.Spec PyProof.Rows
structure P3 (K:PySem.W.Frag) (X:Cx) (e:Expr) (t:TE) (t3:TE3):Prop where
 pe:PE X e t
 rf:Ref K t t3
structure P3B (K:PySem.W.Frag) (X:Cx) (e:Expr) (t:TE) (t3:TB3):Prop where
 pe:PE X e t
 rf:mV K t t3
section
variable {K:PySem.W.Frag} {X:Cx} {a b c:Expr} {ta tb tc:TE} {a3 b3 c3:TB3} {pos:Pos}
theorem P3.opd {e3:TE3} (h:P3 K X a ta e3):P3B K X a ta (bof e3):=⟨h.pe,xN h.rf⟩
theorem bv (i:Nat) {x:Str} {pos:Pos} (hN:X.N[i]?=some x:=by rfl) (hv:Vis X.env.scope x:=by first | exact Or.inl rfl | exact Or.inr (Or.inl rfl) | exact Or.inr (Or.inr rfl)) (hd:(x == ("__debug__":Str))=false:=by decide)
  (hcd:(x == ("__classdict__":Str))=false:=by decide):P3B K X (.Name x pos) (cY i) (bor i):=⟨qO hN hv hd hcd,u5 i⟩
theorem h9 {B:Bs} {F:Hp} {σ:L2.St} {H:Hp} {Γ:G} {Q:RV→G→Prop} {i:Int} (e:En K B F σ H Γ) (q:Q (.fz (.int i)) Γ):Po K B F σ Q (.int i) H:=gj (d:=.int i) e rfl q
theorem hZ {B:Bs} {F:Hp} {σ:L2.St} {H:Hp} {Γ:G} {Q:RV→G→Prop} {i:Str} (e:En K B F σ H Γ) (q:Q (.fz (.str i)) Γ):Po K B F σ Q (.str i) H:=gj (d:=.str i) e rfl q
theorem jK {B:Bs} {F:Hp} {σ:L2.St} {H:Hp} {Γ:G} {Q:RV→G→Prop} {i:Bool} (e:En K B F σ H Γ) (q:Q (.fz (.bl i)) Γ):Po K B F σ Q (.bl i) H:=gj (d:=.bl i) e rfl q
theorem p3v (i:Nat) {x:Str} {pos:Pos} (hN:X.N[i]?=some x:=by rfl) (hv:Vis X.env.scope x:=by first | exact Or.inl rfl | exact Or.inr (Or.inl rfl) | exact Or.inr (Or.inr rfl)) (hd:(x == ("__debug__":Str))=false:=by decide)
  (hcd:(x == ("__classdict__":Str))=false:=by decide):P3 K X (.Name x pos) (cY i) (lI i):=⟨qO hN hv hd hcd,xO i⟩
theorem af {i j pos}:P3 K X (.Constant (.int i) j pos) (tC (.int i)) (t3C (.int i)):=⟨og,m7 fun _=>rfl⟩
theorem cq {i j pos}:P3 K X (.Constant (.bool i) j pos) (tC (.bl i)) (t3C (.bl i)):=⟨Dm,m7 fun _=>rfl⟩
theorem qR {j pos}:P3 K X (.Constant .none j pos) (tC .non) (t3C .non):=⟨A_,m7 fun _=>rfl⟩
theorem oi {x j pos}:P3 K X (.Constant (.str x) j pos) (tC (.str x)) (t3C (.str x)):=⟨A7,m7 fun _=>rfl⟩
theorem iP {x:Str} {i:Int} {pos:Pos} (hg:Gl X x) (hm:∃ t,X.mg x=some (.int i t)) (hd:(x == ("__debug__":Str))=false:=by decide):P3 K X (.Name x pos) (tC (.int i)) (t3C (.int i)):=
 ⟨let ⟨t,hm⟩:=hm;sE (v:=.int i) hg hm ⟨t,rfl⟩ hd,m7 fun _=>rfl⟩
theorem ij {x y v:Int} {j k:Nat} {pos pos' pos'':Pos} (h:x ^ y.toNat=v) (hc:xr x y):P3 K X (.BinOp (.Constant (.int x) j pos') .Pow (.Constant (.int y) k pos'') pos) (tOp (rI xr fun i j=>.int (i ^ j.toNat)) (tC (.int x)) (tC (.int y))) (t3C (.int v)):=
 ⟨lU vJ og og,fun B F σ H Γ Q QQ e q k=>⟨x,y,rfl,rfl,hc,by show QQ (.int (x ^ y.toNat)) H;rw[h];exact k _ _ (h9 e q)⟩⟩
def i2 (C:Int→Int→Prop) (f:Int→Int→D) (x y:D) (Γ:G) (Q:RV→G→Prop):Prop:=match x,y with
 | .int i,.int j=>C i j∧Q (.fz (f i j)) Γ
 | _,_=>False
def i2' (f:Int→Int→D) (x y:D) (Γ:G) (Q:RV→G→Prop):Prop:=match x,y with
 | .int i,.int j=>Q (.fz (f i j)) Γ
 | _,_=>False
theorem opI {C:Int→Int→Prop} {f:Int→Int→D} {g:Int→Int→V} (h:∀ F i j,Rep K F (f i j) (g i j)):j4 K (rI C g) (i2 C f):=by
 intro B F σ H Γ x y dx dy Q QQ e rx ry q k
 unfold i2 at q
 split at q
 ·cases rx;cases ry
  exact⟨_,_,rfl,rfl,q.1,k _ _ (gj e (h F _ _) q.2)⟩
 ·exact q.elim
theorem qT {f:Int→Int→D} {g:Int→Int→V} (h:∀ F i j,Rep K F (f i j) (g i j)):j4 K (rI0 g) (i2' f):=by
 intro B F σ H Γ x y dx dy Q QQ e rx ry q k
 unfold i2' at q
 split at q
 ·cases rx;cases ry
  exact⟨_,_,rfl,rfl,k _ _ (gj e (h F _ _) q)⟩
 ·exact q.elim
def zm (x y:D) (Γ:G) (Q:RV→G→Prop):Prop:=match x,y with
 | .int i,.int j=>Q (.fz (.int (i + j))) Γ
 | .lst xs,.lst ys=>xs.length + ys.length≤sizeLine∧Q (.fr (.lst (xs++ys))) Γ
 | .str i,.str j=>i.length + j.length≤sizeLine∧Q (.fz (.str (i++j))) Γ
 | _,_=>False
theorem av.length {F:Hp}:∀ {xs:List D} {vs:List V},av K F xs vs→vs.length=xs.length
 | [],_,h=>by cases h;rfl
 | _::_,_,⟨v,ws,h1,h2,h3⟩=>by subst h1;simp [h3.length]
theorem av.append {F:Hp}:∀ {xs ys:List D} {vs ws:List V},av K F xs vs→av K F ys ws→av K F (xs++ys) (vs++ws)
 | [],_,_,_,h,h'=>by cases h;exact h'
 | _::_,_,_,_,⟨v,ws,h1,h2,h3⟩,h'=>by subst h1;exact⟨v,_,rfl,h2,h3.append h'⟩
theorem av.get {F:Hp}:∀ {xs:List D} {vs:List V},av K F xs vs→∀ {i:Nat} {d:D},xs[i]?=some d→∃ v,vs[i]?=some v∧Rep K F d v
 | [],_,_,i,d,e=>by simp at e
 | x::xs,_,⟨v,ws,h1,h2,h3⟩,0,d,e=>by subst h1;simp at e;subst e;exact⟨v,rfl,h2⟩
 | x::xs,_,⟨v,ws,h1,h2,h3⟩,i + 1,d,e=>by
  subst h1
  obtain⟨u,a,b⟩:=h3.get (i:=i) (d:=d) (by simpa using e)
  exact⟨u,by simpa using a,b⟩
theorem av.yL {F:Hp}:∀ {xs:List D} {vs:List V},av K F xs vs→∀ {i:Nat} {v:V},vs[i]?=some v→∃ d,xs[i]?=some d∧Rep K F d v:=fun {xs vs} h {i v} e=>by
 have hi:i < vs.length:=(List.getElem?_eq_some_iff.mp e).1
 rw[h.length] at hi
 obtain⟨u,a,b⟩:=h.get (List.getElem?_eq_getElem hi)
 rw[e] at a;cases a
 exact⟨_,List.getElem?_eq_getElem hi,b⟩
theorem av.take {F:Hp}:∀ {xs:List D} {vs:List V} (n:Nat),av K F xs vs→av K F (xs.take n) (vs.take n)
 | _,_,0,_=>by simp [av]
 | [],_,n + 1,h=>by cases h;simp [av]
 | x::xs,_,n + 1,⟨v,ws,h1,h2,h3⟩=>by subst h1;exact⟨v,_,rfl,h2,av.take n h3⟩
theorem av.drop {F:Hp}:∀ {xs:List D} {vs:List V} (n:Nat),av K F xs vs→av K F (xs.drop n) (vs.drop n)
 | _,_,0,h=>h
 | [],_,n + 1,h=>by cases h;simp [av]
 | x::xs,_,n + 1,⟨v,ws,h1,h2,h3⟩=>by subst h1;exact av.drop n h3
theorem av.set {F:Hp} {d:D} {v:V} (r:Rep K F d v):∀ {xs:List D} {vs:List V} (n:Nat),av K F xs vs→av K F (xs.set n d) (vs.set n v)
 | [],_,_,h=>by cases h;simp [av]
 | x::xs,_,0,⟨u,ws,h1,h2,h3⟩=>by subst h1;exact⟨v,ws,rfl,r,h3⟩
 | x::xs,_,n + 1,⟨u,ws,h1,h2,h3⟩=>by subst h1;exact⟨u,_,rfl,h2,av.set r n h3⟩
theorem av.ints {F:Hp}:∀ (ns:List Int),av K F (ns.map D.int) (ns.map V.int)
 | []=>rfl
 | n::ns=>⟨_,_,rfl,rfl,av.ints ns⟩
abbrev xU:R2:=fun x y H Q=>rI0 (fun i j=>.int (i + j)) x y H Q∨De x y H Q∨(∃ i j,x=.str i∧y=.str j∧i.length + j.length≤sizeLine∧Q (.str (i++j)) H)
theorem yl:OpR X (binaryOp .Add) xU:=Bm.or (Bl.or qS)
theorem addRef:j4 K xU zm:=by
 intro B F σ H Γ x y dx dy Q QQ e rx ry q k
 unfold zm at q
 split at q
 ·cases rx;cases ry
  exact .inl ⟨_,_,rfl,rfl,k _ _ (h9 e q)⟩
 ·obtain⟨p,vs,rfl,h1,h2⟩:=rx
  obtain⟨p',ws,rfl,h3,h4⟩:=ry
  refine .inr (.inl ⟨p,p',vs,ws,rfl,rfl,h1,h3,by rw[h2.length,h4.length];exact q.1,fun l hl=>k _ _ (jJ e hl (h2.append h4) q.2)⟩)
 ·cases rx;cases ry
  exact .inr (.inr ⟨_,_,rfl,rfl,q.1,k _ _ (hZ e q.2)⟩)
 ·exact q.elim
theorem cO (ha:P3B K X a ta a3) (hb:P3B K X b tb b3):P3 K X (.BinOp a .Add b pos) (tOp xU ta tb) (kM zm a3 b3):=⟨lU yl ha.pe hb.pe,gD addRef ha.rf hb.rf⟩
theorem ek (ha:P3B K X a ta a3) (hb:P3B K X b tb b3):P3 K X (.BinOp a .Sub b pos) (tOp (rI0 fun i j=>.int (i - j)) ta tb) (kM (i2' fun i j=>.int (i - j)) a3 b3):=⟨lU Be ha.pe hb.pe,gD (qT fun _ _ _=>rfl) ha.rf hb.rf⟩
theorem eP (ha:P3B K X a ta a3) (hb:P3B K X b tb b3):P3 K X (.BinOp a .Mult b pos) (tOp (rI xu fun i j=>.int (i * j)) ta tb) (kM (i2 xu fun i j=>.int (i * j)) a3 b3):=⟨lU Bg ha.pe hb.pe,gD (opI fun _ _ _=>rfl) ha.rf hb.rf⟩
theorem lh (ha:P3B K X a ta a3) (hb:P3B K X b tb b3):P3 K X (.BinOp a .FloorDiv b pos) (tOp (rI uC fun i j=>.int (i / j)) ta tb) (kM (i2 uC fun i j=>.int (i / j)) a3 b3):=⟨lU yk ha.pe hb.pe,gD (opI fun _ _ _=>rfl) ha.rf hb.rf⟩
theorem ji (ha:P3B K X a ta a3) (hb:P3B K X b tb b3):P3 K X (.BinOp a .Mod b pos) (tOp (rI (fun _ j=>0 < j) fun i j=>.int (i % j)) ta tb) (kM (i2 (fun _ j=>0 < j) fun i j=>.int (i % j)) a3 b3):=⟨lU Bh ha.pe hb.pe,gD (opI fun _ _ _=>rfl) ha.rf hb.rf⟩
theorem sI (ha:P3B K X a ta a3) (hb:P3B K X b tb b3):P3 K X (.BinOp a .Pow b pos) (tOp (rI xr fun i j=>.int (i ^ j.toNat)) ta tb) (kM (i2 xr fun i j=>.int (i ^ j.toNat)) a3 b3):=⟨lU vJ ha.pe hb.pe,gD (opI fun _ _ _=>rfl) ha.rf hb.rf⟩
def yW (f:Int→Int→Bool) (x y:D) (Γ:G) (Q:RV→G→Prop):Prop:=i2' (fun i j=>.bl (f i j)) x y Γ Q
abbrev um (i j:Int):Bool:=decide (i < j)
abbrev jS (i j:Int):Bool:=decide (i≤j)
abbrev FZ (i j:Int):Bool:=decide (j < i)
abbrev HG (i j:Int):Bool:=decide (j≤i)
structure C3 (K:PySem.W.Frag) (X:Cx) (op:CmpOp) (r:R2) (o3:D→D→TE3):Prop where
 op:OpR X (compareOp op) r
 rf:j4 K r o3
theorem tG:C3 K X .Lt (rI0 fun i j=>.bl (decide (i < j))) (yW um):=⟨Ds,qT fun _ _ _=>rfl⟩
theorem kD:C3 K X .LtE (rI0 fun i j=>.bl (decide (i≤j))) (yW jS):=⟨Du,qT fun _ _ _=>rfl⟩
theorem Ai:C3 K X .Gt (rI0 fun i j=>.bl (decide (j < i))) (yW FZ):=⟨Dv,qT fun _ _ _=>rfl⟩
def eqS:D→D→Option Bool
 | .int i,.int j=>some (decide (i=j))
 | .str i,.str j=>some (decide (i=j))
 | .bl i,.bl j=>some (decide (i=j))
 | .non,.non=>some true
 | .int _,.str _=>some false
 | .str _,.int _=>some false
 | .bl _,.str _=>some false
 | .str _,.bl _=>some false
 | .non,.int _=>some false
 | .int _,.non=>some false
 | .non,.str _=>some false
 | .str _,.non=>some false
 | .non,.bl _=>some false
 | .bl _,.non=>some false
 | _,_=>none
def eq3 (neg:Bool) (x y:D) (Γ:G) (Q:RV→G→Prop):Prop:=match eqS x y with
 | some k=>Q (.fz (.bl (neg ^^ k))) Γ
 | none=>False
theorem fQ {op:CmpOp} {r:R2} {o3:D→D→TE3} (h:C3 K X op r o3) (ha:P3B K X a ta a3) (hb:P3B K X b tb b3) (hm:behindInMarks op b=false):P3 K X (.Compare a [op] [b] pos) (tOp r ta tb) (kM o3 a3 b3):=⟨x_ h.op ha.pe hb.pe hm,gD h.rf ha.rf hb.rf⟩
def kW (o3 o3':D→D→TE3) (a3 b3 c3:TB3) (Γ:G) (Q:RV→G→Prop):Prop:=a3 Γ fun x Γ1=>b3 Γ1 fun y Γ2=>∃ dx dy,x.at Γ2=some dx∧y.at Γ2=some dy∧o3 dx dy Γ2 fun z Γ3=>match z with
 | .fz (.bl true)=>c3 Γ3 fun w Γ4=>∃ dy dw,y.at Γ4=some dy∧w.at Γ4=some dw∧o3' dy dw Γ4 Q
 | .fz (.bl false)=>Q (.fz (.bl false)) Γ3
 | _=>False
theorem m6 {r r':R2} {o3 o3':D→D→TE3} (h:j4 K r o3) (h':j4 K r' o3') (ha:mV K ta a3) (hb:mV K tb b3) (hc:mV K tc c3):Ref K (lG r r' ta tb tc) (kW o3 o3' a3 b3 c3):=by
 intro B F σ H Γ Q QQ e q k
 refine ha B F σ H Γ _ _ e q (fun v H1 ⟨F1,Γ1,x,s1,e1,r1,q1⟩=>?_)
 refine hb B F1 σ H1 Γ1 _ _ e1 q1 (fun u H2 ⟨F2,Γ2,y,s2,e2,r2,dx,dy,h1,h2,q2⟩=>?_)
 refine h B F2 σ H2 Γ2 v u dx dy _ _ e2 (e2.bo (r1.mono s2) h1) (e2.bo r2 h2) q2 fun z H3 ⟨F3,Γ3,z3,s3,e3,r3,q3⟩=>?_
 have sall:=(s1.trans s2).trans s3
 revert r3 q3
 split
 ·intro r3 q3
  refine⟨true,r3,?_⟩
  rw[if_pos rfl]
  refine hc B F3 σ H3 Γ3 _ _ e3 q3 (fun w H4 ⟨F4,Γ4,w3,s4,e4,r4,dy,dw,h3,h4,q4⟩=>?_)
  exact h' B F4 σ H4 Γ4 u w dy dw Q QQ e4 (e4.bo (r2.mono (s3.trans s4)) h3) (e4.bo r4 h4) q4 fun z H5 p=>k z H5 (p.mono (sall.trans s4))
 ·intro r3 q3
  refine⟨false,r3,?_⟩
  rw[if_neg (by simp)]
  exact k _ _ (Po.mono sall (jK e3 q3))
 ·intro _ q3;exact q3.elim
theorem lW {op op':CmpOp} {r r':R2} {o3 o3':D→D→TE3} (h:C3 K X op r o3) (h':C3 K X op' r' o3') (ha:P3B K X a ta a3) (hb:P3B K X b tb b3) (hc:P3B K X c tc c3) (hm:lastMarks [op,op'] [b,c]=false:=by with_unfolding_all rfl) :
  P3 K X (.Compare a [op,op'] [b,c] pos) (lG r r' ta tb tc) (kW o3 o3' a3 b3 c3):=⟨vA h.op h'.op ha.pe hb.pe hc.pe hm,m6 h.rf h'.rf ha.rf hb.rf hc.rf⟩
def Bw (x:D) (Γ:G) (Q:RV→G→Prop):Prop:=match x with
 | .int i=>Q (.fz (.int (-i))) Γ
 | _=>False
theorem jh (ha:P3B K X a ta a3):P3 K X (.UnaryOp .USub a pos) (tUn (rU fun i=>.int (-i)) ta) (uO Bw a3):=⟨Dk Ar ha.pe,u7 (r:=rU fun i=>.int (-i)) (ta:=ta) (by
 intro B F σ H Γ x dx Q QQ e rx q k
 unfold Bw at q
 split at q
 ·cases rx
  exact⟨_,rfl,k _ _ (h9 e q)⟩
 ·exact q.elim) ha.rf⟩
end
end L3
namespace L3
open PySem L2 PySem.Spec
abbrev TT3:=G→(Bool→G→Prop)→Prop
def PoT (K:PySem.W.Frag) (B:Bs) (F:Hp) (σ:L2.St) (Q:Bool→G→Prop):Bool→Hp→Prop:=fun b H'=>∃ F' Γ',aE F F'∧En K B F' σ H' Γ'∧Q b Γ'
def kT (K:PySem.W.Frag) (t:TT) (t3:TT3):Prop:=∀ (B:Bs) (F:Hp) (σ:L2.St) (H:Hp) (Γ:G) (Q:Bool→G→Prop) (QQ:Bool→Hp→Prop),En K B F σ H Γ→t3 Γ Q→(∀ b H',PoT K B F σ Q b H'→QQ b H')→t σ H QQ
structure P3T (K:PySem.W.Frag) (X:Cx) (e:Expr) (t:TT) (t3:TT3):Prop where
 pe:PT X e t
 rf:kT K t t3
structure P3W (K:PySem.W.Frag) (X:Cx) (e:Expr) (t:TT) (t3:TT3):Prop where
 pe:PW X e t
 rf:kT K t t3
section
variable {K:PySem.W.Frag} {X:Cx} {a b c:Expr} {ta tb tc:TE} {a3 b3 c3:TE3} {a3' b3' c3':TB3} {pos:Pos} {tA tB':TT} {A3 B3:TT3} {rest:List Expr}
def tst (a3:TE3) (Γ:G) (Q:Bool→G→Prop):Prop:=a3 Γ fun x Γ1=>match x.d with
 | .bl k=>Q k Γ1
 | _=>False
theorem PoT.mono {B:Bs} {F F':Hp} {σ:L2.St} {H:Hp} {Q:Bool→G→Prop} {k:Bool} (s:aE F F') (h:PoT K B F' σ Q k H):PoT K B F σ Q k H:=by
 obtain⟨F2,Γ',a,b⟩:=h
 exact⟨F2,Γ',s.trans a,b⟩
theorem ve (h:Ref K ta a3):kT K (fun σ H Q=>ta σ H fun x H1=>∃ c,x=.bl c∧Q c H1) (tst a3):=by
 intro B F σ H Γ Q QQ e q k
 refine h B F σ H Γ _ _ e q (fun v H1 ⟨F1,Γ1,x,s1,e1,r1,q1⟩=>?_)
 obtain⟨F1',s1',e1',r1'⟩:=e1.frozen r1
 revert r1' q1
 split
 ·rename_i hz
  intro q1 r1'
  rw[hz] at r1'
  exact⟨_,r1',k _ _ ⟨F1',Γ1,s1.trans s1',e1',q1⟩⟩
 ·intro q1;exact q1.elim
theorem aY {e:Expr} {t:TE} {e3:TE3} (h:P3 K X e t e3) (he:∀ whole,isTrue e X.env whole=(do let v ← whole;standAt e.pos;holding [v] (truthy v)):=by intro _;rfl):P3T K X e (tB t) (tst e3):=⟨AV h.pe he,ve h.rf⟩
theorem bj {op:CmpOp} {r:R2} {o3:D→D→TE3} (h:C3 K X op r o3) (ha:P3B K X a ta a3') (hb:P3B K X b tb b3') (hm:behindInMarks op b=false):P3T K X (.Compare a [op] [b] pos) (sf (tOp r ta tb)) (tst (kM o3 a3' b3')):=
 ⟨xX h.op ha.pe hb.pe hm,ve (gD h.rf ha.rf hb.rf)⟩
theorem t9 {op op':CmpOp} {r r':R2} {o3 o3':D→D→TE3} (h:C3 K X op r o3) (h':C3 K X op' r' o3') (ha:P3B K X a ta a3') (hb:P3B K X b tb b3') (hc:P3B K X c tc c3') (hm:lastMarks [op,op'] [b,c]=false:=by with_unfolding_all rfl) :
  P3T K X (.Compare a [op,op'] [b,c] pos) (sf (lG r r' ta tb tc)) (tst (kW o3 o3' a3' b3' c3')):=⟨vm h.op h'.op ha.pe hb.pe hc.pe hm,ve (m6 h.rf h'.rf ha.rf hb.rf hc.rf)⟩
def Cu (A3 B3:TT3) (Γ:G) (Q:Bool→G→Prop):Prop:=A3 Γ fun c Γ1=>match c with
 | true=>B3 Γ1 Q
 | false=>Q false Γ1
def or3 (A3 B3:TT3) (Γ:G) (Q:Bool→G→Prop):Prop:=A3 Γ fun c Γ1=>match c with
 | true=>Q true Γ1
 | false=>B3 Γ1 Q
def Bt (A3:TT3) (Γ:G) (Q:Bool→G→Prop):Prop:=A3 Γ fun c Γ1=>Q (!c) Γ1
theorem xR (ha:kT K tA A3) (hb:kT K tB' B3):kT K (Ay tA tB') (Cu A3 B3):=by
 intro B F σ H Γ Q QQ e q k
 refine ha B F σ H Γ _ _ e q (fun c H1 ⟨F1,Γ1,s1,e1,q1⟩=>?_)
 cases c with
 | true=>exact wc (hb B F1 σ H1 Γ1 _ _ e1 q1 fun c H2 p=>k _ _ (p.mono s1))
 | false=>exact we (k _ _ ⟨F1,Γ1,s1,e1,q1⟩)
theorem AM (ha:kT K tA A3) (hb:kT K tB' B3):kT K (tOr tA tB') (or3 A3 B3):=by
 intro B F σ H Γ Q QQ e q k
 refine ha B F σ H Γ _ _ e q (fun c H1 ⟨F1,Γ1,s1,e1,q1⟩=>?_)
 cases c with
 | true=>exact wc (k _ _ ⟨F1,Γ1,s1,e1,q1⟩)
 | false=>exact we (hb B F1 σ H1 Γ1 _ _ e1 q1 fun c H2 p=>k _ _ (p.mono s1))
theorem xP (ha:kT K tA A3):kT K (Ax tA) (Bt A3):=by
 intro B F σ H Γ Q QQ e q k
 exact ha B F σ H Γ _ _ e q (fun c H1 ⟨F1,Γ1,s1,e1,q1⟩=>k _ _ ⟨F1,Γ1,s1,e1,q1⟩)
theorem vD (ha:P3T K X a tA A3):P3W K X (.BoolOp .And [a] pos) tA A3:=⟨xV ha.pe,ha.rf⟩
theorem cL (ha:P3T K X a tA A3):P3W K X (.BoolOp .Or [a] pos) tA A3:=⟨AQ ha.pe,ha.rf⟩
theorem ye (ha:P3T K X a tA A3) (hb:P3W K X (.BoolOp .And (b::rest) pos) tB' B3):P3W K X (.BoolOp .And (a::b::rest) pos) (Ay tA tB') (Cu A3 B3):=⟨AR ha.pe hb.pe,xR ha.rf hb.rf⟩
theorem dr (ha:P3T K X a tA A3) (hb:P3W K X (.BoolOp .Or (b::rest) pos) tB' B3):P3W K X (.BoolOp .Or (a::b::rest) pos) (tOr tA tB') (or3 A3 B3):=⟨Df ha.pe hb.pe,AM ha.rf hb.rf⟩
theorem P3W.pt {e:Expr} (h:P3W K X e tA A3):P3T K X e tA A3:=⟨h.pe.pt,h.rf⟩
theorem aZ (ha:P3T K X a tA A3):P3T K X (.UnaryOp .Not a pos) (Ax tA) (Bt A3):=⟨AW ha.pe,xP ha.rf⟩
def Ak (a3 b3'':TE3) (Γ:G) (Q:RV→G→Prop):Prop:=a3 Γ fun x Γ1=>match x.d with
 | .bl true=>b3'' Γ1 Q
 | .bl false=>Q (.fz (.bl false)) Γ1
 | _=>False
def Fz (a3 b3'':TE3) (Γ:G) (Q:RV→G→Prop):Prop:=a3 Γ fun x Γ1=>match x.d with
 | .bl true=>Q (.fz (.bl true)) Γ1
 | .bl false=>b3'' Γ1 Q
 | _=>False
def zD (a3:TE3) (Γ:G) (Q:RV→G→Prop):Prop:=a3 Γ fun x Γ1=>match x.d with
 | .bl k=>Q (.fz (.bl (!k))) Γ1
 | _=>False
theorem gH {op} (h:P3 K X a ta a3):P3 K X (.BoolOp op [a] pos) ta a3:=⟨A8 h.pe,h.rf⟩
theorem fj (ha:P3 K X a ta a3) (hb:P3 K X (.BoolOp .And (b::rest) pos) tb b3):P3 K X (.BoolOp .And (a::b::rest) pos) (zw ta tb) (Ak a3 b3):=⟨Bc ha.pe hb.pe,by
 intro B F σ H Γ Q QQ e q k
 refine ha.rf B F σ H Γ _ _ e q (fun v H1 ⟨F1,Γ1,x,s1,e1,r1,q1⟩=>?_)
 obtain⟨F1',s1',e1',r1'⟩:=e1.frozen r1
 revert r1' q1
 split
 ·rename_i hz
  intro q1 r1'
  rw[hz] at r1'
  exact⟨true,r1',wc (hb.rf B F1' σ H1 Γ1 _ _ e1' q1 fun v H2 p=>k _ _ (p.mono (s1.trans s1')))⟩
 ·rename_i hz
  intro q1 r1'
  rw[hz] at r1'
  exact⟨false,r1',we (k _ _ (Po.mono (s1.trans s1') (jK e1' q1)))⟩
 ·intro q1;exact q1.elim⟩
theorem Bd (ha:P3 K X a ta a3):P3 K X (.UnaryOp .Not a pos) (zt ta) (zD a3):=⟨A9 ha.pe,by
 intro B F σ H Γ Q QQ e q k
 refine ha.rf B F σ H Γ _ _ e q (fun v H1 ⟨F1,Γ1,x,s1,e1,r1,q1⟩=>?_)
 obtain⟨F1',s1',e1',r1'⟩:=e1.frozen r1
 revert r1' q1
 split
 ·rename_i hz
  intro q1 r1'
  rw[hz] at r1'
  exact⟨_,r1',k _ _ (Po.mono (s1.trans s1') (jK e1' q1))⟩
 ·intro q1;exact q1.elim⟩
def if3 (A3:TT3) (a3 b3:TE3) (Γ:G) (Q:RV→G→Prop):Prop:=A3 Γ fun c Γ1=>match c with
 | true=>a3 Γ1 Q
 | false=>b3 Γ1 Q
end
abbrev TA3:=G→(List D→G→Prop)→Prop
def PoA (K:PySem.W.Frag) (B:Bs) (F:Hp) (σ:L2.St) (Q:List D→G→Prop):List V→Hp→Prop:=fun vs H'=>∃ F' Γ' ds,aE F F'∧En K B F' σ H' Γ'∧av K F' ds vs∧Q ds Γ'
def ED (K:PySem.W.Frag) (t:TA) (t3:TA3):Prop:=∀ (B:Bs) (F:Hp) (σ:L2.St) (H:Hp) (Γ:G) (Q:List D→G→Prop) (QQ:List V→Hp→Prop),En K B F σ H Γ→t3 Γ Q→(∀ vs H',PoA K B F σ Q vs H'→QQ vs H')→t σ H QQ
structure P3A (K:PySem.W.Frag) (X:Cx) (es:List Expr) (t:TA) (t3:TA3):Prop where
 pe:PA X es t
 rf:ED K t t3
section
variable {K:PySem.W.Frag} {X:Cx} {e:Expr} {es:List Expr} {te:TE} {e3:TE3} {t:TA} {t3:TA3} {pos:Pos}
def ua (Γ:G) (Q:List D→G→Prop):Prop:=Q [] Γ
def iG (e3:TE3) (t3:TA3) (Γ:G) (Q:List D→G→Prop):Prop:=e3 Γ fun x Γ1=>t3 Γ1 fun xs Γ2=>Q (x.d::xs) Γ2
theorem ai:P3A K X [] kL ua:=⟨jg,fun B F σ H Γ Q QQ e q k=>k _ _ ⟨F,Γ,[],aE.refl F,e,rfl,q⟩⟩
theorem ab (ha:P3 K X e te e3) (hr:P3A K X es t t3) (hs:starEach (e::es) X.env=(false,eval e X.env)::starEach es X.env:=by rfl):P3A K X (e::es) (gg te t) (iG e3 t3):=⟨eW ha.pe hr.pe hs,by
 intro B F σ H Γ Q QQ e q k
 refine ha.rf B F σ H Γ _ _ e q (fun v H1 ⟨F1,Γ1,x,s1,e1,r1,q1⟩=>?_)
 obtain⟨F1',s1',e1',r1'⟩:=e1.frozen r1
 refine hr.rf B F1' σ H1 Γ1 _ _ e1' q1 (fun vs H2 ⟨F2,Γ2,ds,s2,e2,r2,q2⟩=>?_)
 exact k _ _ ⟨F2,Γ2,x.d::ds,(s1.trans s1').trans s2,e2,⟨v,vs,rfl,r1'.mono s2,r2⟩,q2⟩⟩
def BC (t3:TA3) (Γ:G) (Q:RV→G→Prop):Prop:=t3 Γ fun xs Γ1=>xs.length≤sizeLine∧Q (.fr (.lst xs)) Γ1
def uL (t3:TA3) (Γ:G) (Q:RV→G→Prop):Prop:=t3 Γ fun xs Γ1=>xs.length≤sizeLine∧Q (.fz (.tup xs)) Γ1
theorem bX (h:P3A K X es t t3):P3 K X (.List es pos) (CP t) (BC t3):=⟨Ba h.pe,by
 intro B F σ H Γ Q QQ e q k
 refine h.rf B F σ H Γ _ _ e q (fun vs H1 ⟨F1,Γ1,ds,s1,e1,r1,q1⟩=>?_)
 exact⟨by rw[r1.length];exact q1.1,fun p hp=>k _ _ (Po.mono s1 (jJ e1 hp r1 q1.2))⟩⟩
theorem bu {x1} (h:P3A K X es t t3):P3 K X (.Tuple es x1 pos) (CN t) (uL t3):=⟨A6 h.pe,by
 intro B F σ H Γ Q QQ e q k
 refine h.rf B F σ H Γ _ _ e q (fun vs H1 ⟨F1,Γ1,ds,s1,e1,r1,q1⟩=>?_)
 exact⟨by rw[r1.length];exact q1.1,fun p hp=>k _ _ (Po.mono s1 (n_ e1 hp r1 q1.2))⟩⟩
end
abbrev fI:=G→(List Bo→G→Prop)→Prop
def cu (K:PySem.W.Frag) (F:Hp) (σ:L2.St):List Bo→List V→Prop
 | [],vs=>vs=[]
 | b::bs,vs=>∃ v ws,vs=v::ws∧kF K F σ b v∧cu K F σ bs ws
def kG (K:PySem.W.Frag) (F H:Hp):List D→List V→Prop
 | [],vs=>vs=[]
 | d::ds,vs=>∃ v ws,vs=v::ws∧fJ K F H d v∧kG K F H ds ws
def ats (Γ:G):List Bo→Option (List D)
 | []=>some []
 | b::bs=>match b.at Γ,ats Γ bs with
  | some d,some ds=>some (d::ds)
  | _,_=>none
def Gz (K:PySem.W.Frag) (B:Bs) (F:Hp) (σ:L2.St) (Q:List Bo→G→Prop):List V→Hp→Prop:=fun vs H'=>∃ F' Γ' bs,aE F F'∧En K B F' σ H' Γ'∧cu K F' σ bs vs∧Q bs Γ'
def qt (K:PySem.W.Frag) (t:TA) (t3:fI):Prop:=∀ (B:Bs) (F:Hp) (σ:L2.St) (H:Hp) (Γ:G) (Q:List Bo→G→Prop) (QQ:List V→Hp→Prop),En K B F σ H Γ→t3 Γ Q→(∀ vs H',Gz K B F σ Q vs H'→QQ vs H')→t σ H QQ
structure qu (K:PySem.W.Frag) (X:Cx) (es:List Expr) (t:TA) (t3:fI):Prop where
 pe:PA X es t
 rf:qt K t t3
section
variable {K:PySem.W.Frag} {X:Cx} {e:Expr} {es:List Expr} {te:TE} {e3:TB3} {t:TA} {t3:fI} {pos:Pos} {B:Bs} {F H:Hp} {σ:L2.St} {Γ:G}
theorem En.bos (e:En K B F σ H Γ):∀ {bs:List Bo} {vs:List V} {ds:List D},cu K F σ bs vs→ats Γ bs=some ds→kG K F H ds vs
 | [],_,_,h,q=>by cases q;exact h
 | b::bs,_,_,⟨v,ws,h1,h2,h3⟩,q=>by
  unfold ats at q
  split at q
  ·rename_i d ds hd hds
   cases q
   exact⟨v,ws,h1,e.bo h2 hd,e.bos h3 hds⟩
  ·cases q
def Bv (Γ:G) (Q:List Bo→G→Prop):Prop:=Q [] Γ
def z9 (e3:TB3) (t3:fI) (Γ:G) (Q:List Bo→G→Prop):Prop:=e3 Γ fun x Γ1=>t3 Γ1 fun xs Γ2=>Q (x::xs) Γ2
theorem ag:qu K X [] kL Bv:=⟨jg,fun B F σ H Γ Q QQ e q k=>k _ _ ⟨F,Γ,[],aE.refl F,e,rfl,q⟩⟩
theorem aa (ha:P3B K X e te e3) (hr:qu K X es t t3) (hs:starEach (e::es) X.env=(false,eval e X.env)::starEach es X.env:=by rfl):qu K X (e::es) (gg te t) (z9 e3 t3):=⟨eW ha.pe hr.pe hs,by
 intro B F σ H Γ Q QQ e q k
 refine ha.rf B F σ H Γ _ _ e q (fun v H1 ⟨F1,Γ1,x,s1,e1,r1,q1⟩=>?_)
 refine hr.rf B F1 σ H1 Γ1 _ _ e1 q1 (fun vs H2 ⟨F2,Γ2,ds,s2,e2,r2,q2⟩=>?_)
 exact k _ _ ⟨F2,Γ2,x::ds,s1.trans s2,e2,⟨v,vs,rfl,r1.mono s2,r2⟩,q2⟩⟩
def tL (K:PySem.W.Frag) (r:List V→Hp→VK→Prop) (c3:List D→TE3):Prop:=∀ (B:Bs) (F:Hp) (σ:L2.St) (H:Hp) (Γ:G) (vs:List V) (ds:List D) (Q:RV→G→Prop) (QQ:VK),En K B F σ H Γ→kG K F H ds vs→c3 ds Γ Q→(∀ v H',Po K B F σ Q v H'→QQ v H')→r vs H QQ
def qg (c3:List D→TE3) (t3:fI) (Γ:G) (Q:RV→G→Prop):Prop:=t3 Γ fun bs Γ1=>∃ ds,ats Γ1 bs=some ds∧c3 ds Γ1 Q
theorem vc {r:List V→Hp→VK→Prop} {c3:List D→TE3} (h:tL K r c3) (ha:qt K t t3):Ref K (tCB r t) (qg c3 t3):=by
 intro B F σ H Γ Q QQ e q k
 refine ha B F σ H Γ _ _ e q (fun vs H1 ⟨F1,Γ1,bs,s1,e1,r1,ds,hd,q1⟩=>?_)
 exact h B F1 σ H1 Γ1 vs ds Q QQ e1 (e1.bos r1 hd) q1 fun v H2 p=>k _ _ (p.mono s1)
structure B3 (K:PySem.W.Frag) (X:Cx) (f:Value) (r:List V→Hp→VK→Prop) (c3:List D→TE3):Prop where
 op:cy X f r
 rf:tL K r c3
variable {x:Str} {p:Pos} {id T:String} {r:List V→Hp→VK→Prop} {c3:List D→TE3}
theorem ar (hc:B3 K X (.builtin id) r c3) (hg:Gl X x) (hm:X.mg x=none) (hv:bootBuiltins x=some (.builtin id)) (ha:qu K X (e::es) t t3) (hn:x≠"__name__":=by decide) (hdb:(x == ("__debug__":Str))=false:=by decide)
  (he:starEach (e::es) X.env=(false,eval e X.env)::starEach es X.env:=by rfl) (hpl:(backTo pos (starEach es X.env)).any (·.1)=false:=by rfl):P3 K X (.Call (.Name x p) (e::es) [] pos) (tCB r t) (qg c3 t3):=
 ⟨vC hc.op hg hm hv ha.pe hn hdb he hpl,vc hc.rf ha.rf⟩
theorem dE (hc:B3 K X (.type T) r c3) (hg:Gl X x) (hm:X.mg x=none) (hv:bootBuiltins x=some (.type T)) (ha:qu K X (e::es) t t3) (hn:x≠"__name__":=by decide) (hdb:(x == ("__debug__":Str))=false:=by decide)
  (he:starEach (e::es) X.env=(false,eval e X.env)::starEach es X.env:=by rfl) (hpl:(backTo pos (starEach es X.env)).any (·.1)=false:=by rfl):P3 K X (.Call (.Name x p) (e::es) [] pos) (tCB r t) (qg c3 t3):=
 ⟨t8 hc.op hg hm hv ha.pe hn hdb he hpl,vc hc.rf ha.rf⟩
def Gs (ds:List D) (Γ:G) (Q:RV→G→Prop):Prop:=match ds with
 | [.int i]=>Q (.fz (.int (if i < 0 then -i else i))) Γ
 | _=>False
def mx3 (f:Int→Int→Int) (ds:List D) (Γ:G) (Q:RV→G→Prop):Prop:=match ds with
 | [.int i,.int j]=>Q (.fz (.int (f i j))) Γ
 | _=>False
theorem kG.one {d:D} {vs:List V} (h:kG K F H [d] vs):∃ v,vs=[v]∧fJ K F H d v:=by
 obtain⟨v,ws,rfl,h1,h2⟩:=h
 cases h2
 exact⟨v,rfl,h1⟩
theorem kG.two {d e:D} {vs:List V} (h:kG K F H [d,e] vs):∃ v w,vs=[v,w]∧fJ K F H d v∧fJ K F H e w:=by
 obtain⟨v,ws,rfl,h1,h2⟩:=h
 obtain⟨w,rfl,h3⟩:=kG.one h2
 exact⟨v,w,rfl,h1,h3⟩
abbrev fmax (i j:Int):Int:=if j > i then j else i
abbrev fmin (i j:Int):Int:=if j < i then j else i
theorem Ae (hc:X.calm=true):B3 K X (.builtin "max") (fun xs H Q=>∃ i j,xs=[.int i,.int j]∧Q (.int (if j > i then j else i)) H) (mx3 fmax):=⟨uq hc,by
 intro B F σ H Γ vs ds Q QQ e r q k
 unfold mx3 at q
 split at q
 ·obtain⟨v,w,rfl,h,h'⟩:=r.two
  cases h;cases h'
  exact⟨_,_,rfl,k _ _ (h9 e q)⟩
 ·exact q.elim⟩
theorem Ac (hc:X.calm=true):B3 K X (.builtin "min") (fun xs H Q=>∃ i j,xs=[.int i,.int j]∧Q (.int (if j < i then j else i)) H) (mx3 fmin):=⟨uo hc,by
 intro B F σ H Γ vs ds Q QQ e r q k
 unfold mx3 at q
 split at q
 ·obtain⟨v,w,rfl,h,h'⟩:=r.two
  cases h;cases h'
  exact⟨_,_,rfl,k _ _ (h9 e q)⟩
 ·exact q.elim⟩
def FL (ds:List D) (Γ:G) (Q:RV→G→Prop):Prop:=match ds with
 | [.int i]=>Q (.fz (.int i)) Γ
 | [.bl k]=>Q (.fz (.int (if k then 1 else 0))) Γ
 | _=>False
def yB:D→Option Nat
 | .lst xs=>some xs.length
 | .tup xs=>some xs.length
 | .ktup xs=>some xs.length
 | .scr ns=>some ns.length
 | _=>none
def BD (ds:List D) (Γ:G) (Q:RV→G→Prop):Prop:=match ds with
 | [.str z]=>z.length≤sizeLine∧Q (.fz (.int z.length)) Γ
 | [d]=>∃ n,yB d=some n∧Q (.fz (.int n)) Γ
 | _=>False
abbrev Fs (K:PySem.W.Frag):List V→Hp→VK→Prop:=fun xs H Q=>(∃ p ys,xs=[.ref p]∧(SqL K H p ys∨SqT K H p ys)∧Q (.int ys.length) H)∨(∃ z,xs=[.str z]∧z.length≤sizeLine∧Q (.int z.length) H)
theorem cy.or' {f:Value} {r r':List V→Hp→VK→Prop} (h:cy X f r) (h':cy X f r'):cy X f (fun xs H Q=>r xs H Q∨r' xs H Q):=by
 intro pins s σ H xs us Q I rx q
 rcases q with q | q
 ·exact h pins s σ H xs us Q I rx q
 ·exact h' pins s σ H xs us Q I rx q
theorem yA {d:D} {v:V} {n:Nat} (s:aE F H) (h:fJ K F H d v) (hn:yB d=some n):∃ p ys,v=.ref p∧(SqL K H p ys∨SqT K H p ys)∧ys.length=n:=by
 unfold yB at hn
 split at hn
 ·cases hn
  obtain⟨p,vs,rfl,h1,h2⟩:=h
  exact⟨p,vs,rfl,.inl (SqL.of h1),h2.length⟩
 ·cases hn
  obtain⟨p,vs,rfl,h1,h2⟩:=h
  exact⟨p,vs,rfl,.inr (.inl (.inl (s _ _ h1))),h2.length⟩
 ·cases hn
  obtain⟨p,vs,rfl,h1,h2⟩:=h
  exact⟨p,vs,rfl,.inr (SqT.same s h1),h2.length⟩
 ·cases hn
  obtain⟨p,rfl,h1⟩:=h
  exact⟨p,_,rfl,.inl (s.seq h1),by simp⟩
 ·cases hn
theorem dF (hK:X.K=K):B3 K X (.builtin "len") (Fs K) BD:=⟨by subst hK;exact cy.or' oV oU,by
 intro B F σ H Γ vs ds Q QQ e r q k
 unfold BD at q
 split at q
 ·obtain⟨v,rfl,h⟩:=r.one
  cases h
  exact .inr ⟨_,rfl,q.1,k _ _ (h9 e q.2)⟩
 ·obtain⟨v,rfl,h⟩:=r.one
  obtain⟨n,hn,q⟩:=q
  obtain⟨p,ys,rfl,hs,hl⟩:=yA e.sub h hn
  subst hl
  exact .inl ⟨p,ys,rfl,hs,k _ _ (h9 e q)⟩
 ·exact q.elim⟩
end
end L3
namespace L3
open PySem L2 PySem.Spec
section
variable {K:PySem.W.Frag} {X:Cx} {a b c:Expr} {ta tb tc:TE} {a3 b3 c3:TB3} {pos:Pos} {B:Bs} {F H:Hp} {σ:L2.St} {Γ:G}
theorem av.atI {xs:List D} {vs:List V} (h:av K F xs vs) {i:Int} {d:D} (e:atI xs i=some d):∃ v,L2.atI vs i=some v∧Rep K F d v:=by
 unfold L2.atI at e ⊢
 rw[h.length]
 cases q:ixN xs.length i with
 | none=>rw[q] at e;cases e
 | some j=>
  rw[q] at e
  exact h.get e
def ix3 (x y:D) (Γ:G) (Q:RV→G→Prop):Prop:=match x,y with
 | .lst xs,.int i=>∃ d,atI xs i=some d∧Q (.fz d) Γ
 | .tup xs,.int i=>∃ d,atI xs i=some d∧Q (.fz d) Γ
 | .ktup xs,.int i=>∃ d,atI xs i=some d∧Q (.fz d) Γ
 | .scr ns,.int i=>∃ n,atI ns i=some n∧Q (.fz (.int n)) Γ
 | .str z,.int i=>z.length≤sizeLine∧∃ c,atI z.cps.toList i=some c∧Q (.fz (.str ⟨#[c]⟩)) Γ
 | _,_=>False
theorem zd {α β:Type} {f:α→β} {xs:List α} {i:Int} {d:α} (e:atI xs i=some d):atI (xs.map f) i=some (f d):=by
 unfold L2.atI at e ⊢
 rw[List.length_map]
 cases q:ixN xs.length i with
 | none=>rw[q] at e;cases e
 | some j=>
  rw[q] at e
  show (xs.map f)[j]?=_
  rw[List.getElem?_map,show xs[j]?=some d from e]
  rfl
theorem DJ:j4 K (rIx K) ix3:=by
 intro B F σ H Γ x y dx dy Q QQ e rx ry q k
 unfold ix3 at q
 split at q
 ·obtain⟨d,hd,q⟩:=q
  obtain⟨p,vs,rfl,h1,h2⟩:=rx
  cases ry
  obtain⟨v,hv,r⟩:=h2.atI hd
  exact .inl ⟨p,vs,_,v,rfl,rfl,SqL.of h1,hv,k _ _ (gj e r q)⟩
 ·obtain⟨d,hd,q⟩:=q
  obtain⟨p,vs,rfl,h1,h2⟩:=rx
  cases ry
  obtain⟨v,hv,r⟩:=h2.atI hd
  exact .inr (.inl ⟨p,vs,_,v,rfl,rfl,.inl (.inl (e.sub _ _ h1)),hv,k _ _ (gj e r q)⟩)
 ·obtain⟨d,hd,q⟩:=q
  obtain⟨p,vs,rfl,h1,h2⟩:=rx
  cases ry
  obtain⟨v,hv,r⟩:=h2.atI hd
  exact .inr (.inl ⟨p,vs,_,v,rfl,rfl,SqT.same e.sub h1,hv,k _ _ (gj e r q)⟩)
 ·obtain⟨d,hd,q⟩:=q
  obtain⟨p,rfl,h1⟩:=rx
  cases ry
  exact .inl ⟨p,_,_,.int d,rfl,rfl,e.sub.seq h1,zd hd,k _ _ (h9 e q)⟩
 ·cases rx;cases ry
  obtain⟨hz,c,hc,q⟩:=q
  exact .inr (.inr ⟨_,_,c,rfl,rfl,hz,hc,k _ _ (hZ e q)⟩)
 ·exact q.elim
theorem aX (hK:X.K=K) (ha:P3B K X a ta a3) (hb:P3B K X b tb b3) (hs:tK b):P3 K X (.Subscript a b pos) (tOp (rIx K) ta tb) (kM ix3 a3 b3):=⟨Dl (by subst hK;exact BL) ha.pe hb.pe hs,gD DJ ha.rf hb.rf⟩
def cut {α:Type} (xs:List α) (lo hi:Option Int):List α:=(xs.drop (HT.sIx xs.length 0 lo)).take (HT.sIx xs.length xs.length hi - HT.sIx xs.length 0 lo)
def pk {α:Type} (xs:List α) (lo hi st:Option Int):List α:=(sliceRange (sliceBounds lo hi st xs.length).1 (sliceBounds lo hi st xs.length).2.1 (sliceBounds lo hi st xs.length).2.2).filterMap (xs[·]?)
abbrev TO3:=G→(Option Int→G→Prop)→Prop
def Gy (K:PySem.W.Frag) (t:TO) (t3:TO3):Prop:=∀ (B:Bs) (F:Hp) (σ:L2.St) (H:Hp) (Γ:G) (Q:Option Int→G→Prop) (QQ:Option Int→Hp→Prop),En K B F σ H Γ→t3 Γ Q→(∀ o H',(∃ F' Γ',aE F F'∧En K B F' σ H' Γ'∧Q o Γ')→QQ o H')→t σ H QQ
structure P3O (K:PySem.W.Frag) (X:Cx) (e:Option Expr) (t:TO) (t3:TO3):Prop where
 pe:PO X e t
 rf:Gy K t t3
def Dw (Γ:G) (Q:Option Int→G→Prop):Prop:=Q none Γ
def CU (a3:TB3) (Γ:G) (Q:Option Int→G→Prop):Prop:=a3 Γ fun x Γ1=>∃ i,x.at Γ1=some (.int i)∧Q (some i) Γ1
def sl3 (a3:TB3) (l3 h3:TO3) (Γ:G) (Q:RV→G→Prop):Prop:=a3 Γ fun x Γ1=>l3 Γ1 fun lo Γ2=>h3 Γ2 fun hi Γ3=>∃ xs,x.at Γ3=some (.lst xs)∧Q (.fr (.lst (cut xs lo hi))) Γ3
def Fj (a3:TB3) (l3 h3:TO3) (Γ:G) (Q:RV→G→Prop):Prop:=a3 Γ fun x Γ1=>l3 Γ1 fun lo Γ2=>h3 Γ2 fun hi Γ3=>∃ xs,x.at Γ3=some (.tup xs)∧¬ (HT.sIx xs.length 0 lo=0∧HT.sIx xs.length xs.length hi=xs.length)∧Q (.fz (.tup (cut xs lo hi))) Γ3
def Fl (a3:TB3) (l3 h3 s3:TO3) (Γ:G) (Q:RV→G→Prop):Prop:=a3 Γ fun x Γ1=>l3 Γ1 fun lo Γ2=>h3 Γ2 fun hi Γ3=>s3 Γ3 fun st Γ4=>st≠some 0∧∃ xs,x.at Γ4=some (.lst xs)∧Q (.fr (.lst (pk xs lo hi st))) Γ4
def me:D→Option (List D)
 | .lst xs=>some xs
 | .tup xs=>some xs
 | .ktup xs=>some xs
 | .scr ns=>some (ns.map .int)
 | _=>none
theorem uf {d:D} {v:V} {xs:List D} (s:aE F H) (h:fJ K F H d v) (hn:me d=some xs):∃ p ys,v=.ref p∧(SqL K H p ys∨SqT K H p ys)∧av K F xs ys:=by
 unfold me at hn
 split at hn
 ·cases hn
  obtain⟨p,vs,rfl,h1,h2⟩:=h
  exact⟨p,vs,rfl,.inl (SqL.of h1),h2⟩
 ·cases hn
  obtain⟨p,vs,rfl,h1,h2⟩:=h
  exact⟨p,vs,rfl,.inr (.inl (.inl (s _ _ h1))),h2⟩
 ·cases hn
  obtain⟨p,vs,rfl,h1,h2⟩:=h
  exact⟨p,vs,rfl,.inr (SqT.same s h1),h2⟩
 ·cases hn
  obtain⟨p,rfl,h1⟩:=h
  exact⟨p,_,rfl,.inl (s.seq h1),av.ints _⟩
 ·cases hn
def v8 (ds:List D) (Γ:G) (Q:RV→G→Prop):Prop:=match ds with
 | [d]=>∃ xs,me d=some xs∧Q (.fr (.lst xs)) Γ
 | _=>False
theorem km (hK:X.K=K):B3 K X (.type "list") (fun xs H Q=>∃ p ys,xs=[.ref p]∧(SqL K H p ys∨SqT K H p ys)∧∀ l,H l=none→Q (.ref l) (upd H l (.lst ys))) v8:=⟨by subst hK;exact oR,by
 intro B F σ H Γ vs ds Q QQ e r q k
 unfold v8 at q
 split at q
 ·obtain⟨v,rfl,h⟩:=r.one
  obtain⟨xs,hn,q⟩:=q
  obtain⟨p,ys,rfl,hs,hl⟩:=uf e.sub h hn
  exact⟨p,ys,rfl,hs,fun l hf=>k _ _ (jJ e hf hl q)⟩
 ·exact q.elim⟩
def qB (ds:List D) (Γ:G) (Q:RV→G→Prop):Prop:=match ds with
 | [.lst xs]=>Q (.fz (.tup xs)) Γ
 | _=>False
theorem tE (hK:X.K=K):B3 K X (.type "tuple") (fun xs H Q=>∃ p ys,xs=[.ref p]∧((SqL K H p ys∧∀ l,H l=none→Q (.ref l) (upd H l (.tup ys)))∨(SqT K H p ys∧Q (.ref p) H))) qB:=⟨by subst hK;exact mS,by
 intro B F σ H Γ vs ds Q QQ e r q k
 unfold qB at q
 split at q
 ·obtain⟨v,rfl,p,ys,rfl,h1,h2⟩:=r.one
  exact⟨p,ys,rfl,.inl ⟨SqL.of h1,fun l hf=>k _ _ (n_ e hf h2 q)⟩⟩
 ·exact q.elim⟩
def knD:D→Bool
 | .non=>true | .bl _=>true | .int _=>true | .str _=>true | .lst _=>true | .tup _=>true | .dct=>true | .dcs _ _=>true | _=>false
theorem wa {d:D} {v:V} (s:aE F H) (h:fJ K F H d v) (hk:knD d=true):Kn H v:=by
 unfold knD at hk
 split at hk
 ·cases h;exact .non
 ·cases h;exact .bl _
 ·cases h;exact .int _
 ·cases h;exact .str _
 ·obtain⟨p,vs,rfl,h1,_⟩:=h;exact .lst h1
 ·obtain⟨p,vs,rfl,h1,_⟩:=h;exact .tup (s _ _ h1)
 ·obtain⟨p,rfl,h1⟩:=h;exact .dK (s _ _ h1)
 ·obtain⟨p,rfl,h1⟩:=h;exact .dK (s _ _ h1)
 ·cases hk
def dB:D→Bool
 | .bl _=>true | _=>false
def dI:D→Bool
 | .bl _=>true | .int _=>true | _=>false
def dL:D→Bool
 | .lst _=>true | _=>false
def dT:D→Bool
 | .tup _=>true | _=>false
def is3 (t:String) (f:D→Bool) (ds:List D) (Γ:G) (Q:RV→G→Prop):Prop:=match ds with
 | [d,.ty t']=>t'=t∧knD d=true∧Q (.fz (.bl (f d))) Γ
 | _=>False
theorem y6 {t:String} {f:D→Bool} {g:Hp→V→Bool} (h:cy X (.builtin "isinstance") (fun xs H Q=>∃ x,xs=[x,.ty t]∧Kn H x∧Q (.bl (g H x)) H))
  (hg:∀ {F H:Hp} {d:D} {v:V},aE F H→fJ K F H d v→knD d=true→g H v=f d):B3 K X (.builtin "isinstance") (fun xs H Q=>∃ x,xs=[x,.ty t]∧Kn H x∧Q (.bl (g H x)) H) (is3 t f):=⟨h,by
 intro B F σ H Γ vs ds Q QQ e r q k
 unfold is3 at q
 split at q
 ·obtain⟨v,w,rfl,h1,h2⟩:=r.two
  obtain⟨rfl,hk,q⟩:=q
  cases h2
  exact⟨v,rfl,wa e.sub h1 hk,by rw[hg e.sub h1 hk];exact k _ _ (jK e q)⟩
 ·exact q.elim⟩
theorem tF (T:e9 X.K):B3 K X (.builtin "isinstance") (fun xs H Q=>∃ x,xs=[x,.ty "bool"]∧Kn H x∧Q (.bl (isB x)) H) (is3 "bool" dB):=y6 (g:=fun _ v=>isB v) (wZ T) fun s h hk=>by
 unfold knD at hk
 split at hk
 ·cases h;rfl
 ·cases h;rfl
 ·cases h;rfl
 ·cases h;rfl
 ·obtain⟨p,vs,rfl,h1,_⟩:=h;rfl
 ·obtain⟨p,vs,rfl,h1,_⟩:=h;rfl
 ·obtain⟨p,rfl,h1⟩:=h;rfl
 ·obtain⟨p,rfl,h1⟩:=h;rfl
 ·cases hk
theorem Ah (T:e9 X.K):B3 K X (.builtin "isinstance") (fun xs H Q=>∃ x,xs=[x,.ty "int"]∧Kn H x∧Q (.bl (isI x)) H) (is3 "int" dI):=y6 (g:=fun _ v=>isI v) (wX T) fun s h hk=>by
 unfold knD at hk
 split at hk
 ·cases h;rfl
 ·cases h;rfl
 ·cases h;rfl
 ·cases h;rfl
 ·obtain⟨p,vs,rfl,h1,_⟩:=h;rfl
 ·obtain⟨p,vs,rfl,h1,_⟩:=h;rfl
 ·obtain⟨p,rfl,h1⟩:=h;rfl
 ·obtain⟨p,rfl,h1⟩:=h;rfl
 ·cases hk
theorem w6 (T:e9 X.K):B3 K X (.builtin "isinstance") (fun xs H Q=>∃ x,xs=[x,.ty "list"]∧Kn H x∧Q (.bl (isL H x)) H) (is3 "list" dL):=y6 (wW T) fun s h hk=>by
 unfold knD at hk
 split at hk
 ·cases h;rfl
 ·cases h;rfl
 ·cases h;rfl
 ·cases h;rfl
 ·obtain⟨p,vs,rfl,h1,_⟩:=h;exact sV h1
 ·obtain⟨p,vs,rfl,h1,_⟩:=h;exact sU (s _ _ h1)
 ·obtain⟨p,rfl,h1⟩:=h;exact rq (s _ _ h1)
 ·obtain⟨p,rfl,h1⟩:=h;exact rq (s _ _ h1)
 ·cases hk
theorem Af (T:e9 X.K):B3 K X (.builtin "isinstance") (fun xs H Q=>∃ x,xs=[x,.ty "tuple"]∧Kn H x∧Q (.bl (isT H x)) H) (is3 "tuple" dT):=y6 (wV T) fun s h hk=>by
 unfold knD at hk
 split at hk
 ·cases h;rfl
 ·cases h;rfl
 ·cases h;rfl
 ·cases h;rfl
 ·obtain⟨p,vs,rfl,h1,_⟩:=h;exact sT h1
 ·obtain⟨p,vs,rfl,h1,_⟩:=h;exact sS (s _ _ h1)
 ·obtain⟨p,rfl,h1⟩:=h;exact rn (s _ _ h1)
 ·obtain⟨p,rfl,h1⟩:=h;exact rn (s _ _ h1)
 ·cases hk
def Cv (ds:List D) (Γ:G) (Q:RV→G→Prop):Prop:=match ds with
 | [.lst xs]=>∃ bs:List Bool,xs=bs.map .bl∧Q (.fz (.bl (bs.all id))) Γ
 | _=>False
theorem av.tH:∀ {bs:List Bool} {vs:List V},av K F (bs.map D.bl) vs→vs=bs.map V.bl
 | [],_,h=>h
 | n::ns,_,⟨v,ws,h1,h2,h3⟩=>by
  rw[h1,av.tH h3]
  have:v=.bl n:=h2
  rw[this];rfl
theorem w_ (hK:X.K=K) (hc:X.calm=true):B3 K X (.builtin "all") (fun xs H Q=>∃ (p:Addr) (bs:List Bool),xs=[.ref p]∧SqL K H p (bs.map V.bl)∧Q (.bl (bs.all id)) H) Cv:=⟨by subst hK;exact ur hc,by
 intro B F σ H Γ vs ds Q QQ e r q k
 unfold Cv at q
 split at q
 ·obtain⟨bs,rfl,q⟩:=q
  obtain⟨v,rfl,p,ys,rfl,h1,h2⟩:=r.one
  exact⟨p,bs,rfl,SqL.of (by rw[h1,h2.tH]),k _ _ (jK e q)⟩
 ·exact q.elim⟩
def flD:D→Bool
 | .non=>true | .bl _=>true | .int _=>true | .str _=>true | _=>false
def toV:D→V
 | .bl b=>.bl b | .int i=>.int i | .str x=>.str x | _=>.non
def in3 (neg:Bool) (x y:D) (Γ:G) (Q:RV→G→Prop):Prop:=∃ xs,me y=some xs∧flD x=true∧xs.all flD=true∧Q (.fz (.bl (if neg then !inV (toV x) (xs.map toV) else inV (toV x) (xs.map toV)))) Γ
def HF (f:Str) (x:D) (Γ:G) (Q:RV→G→Prop):Prop:=match x with
 | .ins C ns xs=>∃ d,(ns.zip xs).lookup f=some d∧Q (.fz d) Γ
 | _=>False
theorem av.lookup:∀ {ns:List Str} {xs:List D} {gs:List (Str×V)} {f:Str} {d:D},gs.map (·.1)=ns→av K F xs (gs.map (·.2))→(ns.zip xs).lookup f=some d→∃ v,gs.lookup f=some v∧Rep K F d v
 | [],_,[],f,d,_,_,h=>by simp at h
 | n::ns,xs,(m,u)::gs,f,d,h1,h2,h3=>by
  simp only[List.map_cons,List.cons.injEq] at h1
  obtain⟨rfl,h1⟩:=h1
  cases xs with
  | nil=>simp at h3
  | cons x xs=>
   obtain⟨v,ws,e,r,h2⟩:=h2
   simp only[List.map_cons,List.cons.injEq] at e
   obtain⟨rfl,rfl⟩:=e
   rw[List.zip_cons_cons,List.lookup_cons] at h3
   rw[List.lookup_cons]
   cases q:f == m with
   | true=>rw[q] at h3;cases h3;exact⟨_,rfl,r⟩
   | false=>rw[q] at h3;exact av.lookup h1 h2 h3
end
end L3
namespace L3
open PySem L2 PySem.Spec
structure E3 where
 nx:G→Prop
 rt:RV→G→Prop
 bk:G→Prop:=fun _=>False
 ct:G→Prop:=fun _=>False
abbrev TS3:=E3→G→Prop
structure nU (K:PySem.W.Frag) (B:Bs) (F:Hp) (D:Ends) (D3:E3):Prop where
 nx:∀ F' σ' H' Γ',aE F F'→En K B F' σ' H' Γ'→D3.nx Γ'→D.nx σ' H'
 rt:∀ F' σ' H' Γ' v r,aE F F'→En K B F' σ' H' Γ'→dC K B F' σ' H' Γ' v r→D3.rt r Γ'→D.rt v H'
 bk:∀ F' σ' H' Γ',aE F F'→En K B F' σ' H' Γ'→D3.bk Γ'→D.bk σ' H'
 ct:∀ F' σ' H' Γ',aE F F'→En K B F' σ' H' Γ'→D3.ct Γ'→D.ct σ' H'
theorem nU.mono {K:PySem.W.Frag} {B:Bs} {F F1:Hp} {D:Ends} {D3:E3} (h:nU K B F D D3) (s:aE F F1):nU K B F1 D D3:=
 ⟨fun F' σ' H' Γ' s'=>h.nx F' σ' H' Γ' (s.trans s'),fun F' σ' H' Γ' v r s'=>h.rt F' σ' H' Γ' v r (s.trans s'),fun F' σ' H' Γ' s'=>h.bk F' σ' H' Γ' (s.trans s'),fun F' σ' H' Γ' s'=>h.ct F' σ' H' Γ' (s.trans s')⟩
def zq (K:PySem.W.Frag) (t:TS) (t3:TS3):Prop:=∀ (B:Bs) (F:Hp) (σ:L2.St) (H:Hp) (Γ:G) (D:Ends) (D3:E3),En K B F σ H Γ→nU K B F D D3→t3 D3 Γ→t D σ H
structure P3S (K:PySem.W.Frag) (X:Cx) (st:Stmt) (t:TS) (t3:TS3):Prop where
 pe:PS X st t
 rf:zq K t t3
structure jB (K:PySem.W.Frag) (X:Cx) (st:List Stmt) (t:TS) (t3:TS3):Prop where
 pe:PSs X st t
 rf:zq K t t3
section
variable {K:PySem.W.Frag} {X:Cx} {B:Bs} {F H:Hp} {σ:L2.St} {Γ:G} {pos:Pos}
def bc (Γ:G) (i:Nat):Prop:=match Γ[i]? with
 | some (some (.ln _))=>False
 | some _=>True
 | none=>False
theorem iu {i:Nat} (h:bc Γ i):i < Γ.length:=by
 unfold bc at h
 split at h
 ·exact h.elim
 ·rename_i q
  exact(List.getElem?_eq_some_iff.mp q).1
 ·exact h.elim
theorem au {α:Type} {l:List α} {i:Nat} {a:α} (h:i < l.length):(l.set i a)[i]?=some a:=by
 rw[List.getElem?_set,if_pos rfl,if_pos h]
theorem En.set (e:En K B F σ H Γ) {i:Nat} (hi:bc Γ i) {v:V} {r:RV} (hr:dC K B F σ H Γ v r) (hn:r.pl=true:=by rfl):En K B F (σ.set i (some v)) H (Γ.set i (some r.sl)):=by
 have il:=iu hi
 have is:i < σ.length:=by rw[e.len];exact il
 have nl:∀ d,Γ[i]?≠some (some (Sl.ln d)):=fun d q=>by unfold bc at hi;rw[q] at hi;exact hi
 have ne:∀ {j:Nat},j≠i→(Γ.set i (some r.sl))[j]?=Γ[j]?∧(σ.set i (some v))[j]?=σ[j]?:=fun h=>⟨aw (Ne.symm h),aw (Ne.symm h)⟩
 have hld:∀ {j x},Hld (Γ.set i (some r.sl)) j x→(j=i∧r=.fr x)∨(j≠i∧Hld Γ j x):=fun {j x} q=>by
  by_cases z:j=i
  ·subst z
   left
   refine⟨rfl,?_⟩
   rcases q with q | q <;> rw[au il] at q <;> cases r <;> first | (cases hn;done) | (cases q;done) | (cases q;rfl)
  ·right
   exact⟨z,by unfold Hld at q ⊢;rw[(ne z).1] at q;exact q⟩
 refine⟨e.sub,by rw[List.length_set,List.length_set];exact e.len,?_,?_,?_,?_,?_,?_,e.keep,e.new,e.rest,e.dom⟩
 ·intro j d q
  by_cases z:j=i
  ·subst z
   rw[au il] at q
   cases r with
   | fz x=>cases q;exact⟨v,au is,hr⟩
   | fr x=>cases q
   | two xs ys=>cases hn
   | rws xss=>cases hn
  ·rw[(ne z).1] at q
   rw[(ne z).2]
   exact e.fz j d q
 ·intro j d q
  rcases hld q with ⟨rfl,rfl⟩ | ⟨z,q⟩
  ·obtain⟨p,rfl,h1,h2,h3,h4⟩:=hr
   exact⟨p,au is,h1,h2⟩
  ·rw[(ne z).2]
   exact e.hl j d q
 ·intro j d p q a
  rcases hld (.inl q) with ⟨rfl,rfl⟩ | ⟨z,_⟩
  ·obtain⟨p',rfl,h1,h2,h3,h4⟩:=hr
   rw[au is] at a;cases a
   exact h3
  ·rw[(ne z).1] at q
   rw[(ne z).2] at a
   exact e.ow j d p q a
 ·intro j d p q a
  rcases hld (.inr q) with ⟨rfl,rfl⟩ | ⟨z,_⟩
  ·rw[au il] at q;cases q
  ·rw[(ne z).1] at q
   rw[(ne z).2] at a
   exact e.ln j d p q a
 ·intro j k d d' p q1 q2 a1 a2
  rcases hld q1 with ⟨rfl,rfl⟩ | ⟨z1,w1⟩
  ·rcases hld q2 with ⟨rfl,h⟩ | ⟨z2,w2⟩
   ·rfl
   ·obtain⟨p',rfl,h1,h2,h3,h4⟩:=hr
    rw[au is] at a1;cases a1
    rw[(ne z2).2] at a2
    exact absurd a2 (h4 k _ w2)
  ·rcases hld q2 with ⟨rfl,h⟩ | ⟨z2,w2⟩
   ·subst h
    obtain⟨p',rfl,h1,h2,h3,h4⟩:=hr
    rw[au is] at a2;cases a2
    rw[(ne z1).2] at a1
    exact absurd a1 (h4 j _ w1)
   ·rw[(ne z1).2] at a1
    rw[(ne z2).2] at a2
    exact e.dis j k d d' p w1 w2 a1 a2
 ·intro j p q
  obtain⟨a,d,b⟩:=e.par j p q
  have z:j≠i:=fun z=>by subst z;exact nl d b
  rw[(ne z).1,(ne z).2]
  exact⟨a,d,b⟩
theorem En.forget (e:En K B F σ H Γ) {i:Nat} (hi:bc Γ i):En K B F σ H (Γ.set i none):=by
 have nl:∀ d,Γ[i]?≠some (some (Sl.ln d)):=fun d q=>by unfold bc at hi;rw[q] at hi;exact hi
 have il:=iu hi
 have ne:∀ {j:Nat} {s:Sl},(Γ.set i none)[j]?=some (some s)→j≠i∧Γ[j]?=some (some s):=fun {j s} q=>by
  by_cases z:j=i
  ·subst z;rw[au il] at q;cases q
  ·exact⟨z,by rw[aw (Ne.symm z)] at q;exact q⟩
 have hld:∀ {j x},Hld (Γ.set i none) j x→Hld Γ j x:=fun q=>q.imp (fun q=>(ne q).2) (fun q=>(ne q).2)
 exact⟨e.sub,by rw[List.length_set];exact e.len,fun j d q=>e.fz j d (ne q).2,fun j d q=>e.hl j d (hld q),fun j d p q=>e.ow j d p (ne q).2,fun j d p q=>e.ln j d p (ne q).2,fun j k d d' p q1 q2=>e.dis j k d d' p (hld q1) (hld q2),
  fun j p q=>by
   obtain⟨a,d,b⟩:=e.par j p q
   have z:i≠j:=fun z=>by subst z;exact nl d b
   exact⟨a,d,by rw[aw z];exact b⟩,e.keep,e.new,e.rest,e.dom⟩
def xA (i:Nat) (Γ:G) (Q:RV→G→Prop):Prop:=match Γ[i]? with
 | some (some (.fz d))=>Q (.fz d) Γ
 | some (some (.ow d))=>Q (.fr d) (Γ.set i none)
 | _=>False
theorem AN (i:Nat):Ref K (cY i) (xA i):=by
 intro B F σ H Γ Q QQ e h k
 unfold xA at h
 split at h
 ·rename_i d q
  obtain⟨v,h1,h2⟩:=e.fz i d q
  exact⟨v,h1,k _ _ (gj e h2 h)⟩
 ·rename_i d q
  obtain⟨p,h1,h2,h3⟩:=e.hl i d (.inl q)
  have hf:bc Γ i:=by unfold bc;rw[q];trivial
  have e':=e.forget hf
  refine⟨_,h1,k _ _ ⟨F,_,.fr d,aE.refl F,e',⟨p,rfl,h2,h3,e.ow i d p q h1,fun j x hj=>?_⟩,h⟩⟩
  intro a
  have hj':j≠i∧Hld Γ j x:=by
   by_cases z:j=i
   ·subst z
    rcases hj with hj | hj <;> rw[au (iu hf)] at hj <;> cases hj
   ·exact⟨z,by unfold Hld at hj ⊢;rw[aw (Ne.symm z)] at hj;exact hj⟩
  exact hj'.1 (e.dis j i x d p hj'.2 (.inl q) a h1)
 ·exact h.elim
theorem Dp (i:Nat) {x:Str} {pos:Pos} (hN:X.N[i]?=some x:=by rfl) (hv:Vis X.env.scope x:=by first | exact Or.inl rfl | exact Or.inr (Or.inl rfl) | exact Or.inr (Or.inr rfl)) (hd:(x == ("__debug__":Str))=false:=by decide)
  (hcd:(x == ("__classdict__":Str))=false:=by decide):P3 K X (.Name x pos) (cY i) (xA i):=⟨qO hN hv hd hcd,AN i⟩
variable {st:Stmt} {rest:List Stmt} {t u:TS} {t3 u3:TS3} {e:Expr} {te:TE} {e3:TE3}
def zE (D:E3) (Γ:G):Prop:=D.nx Γ
def AH (t u:TS3) (D:E3) (Γ:G):Prop:=t { D with nx:=u D } Γ
def C5 (e3:TE3) (D:E3) (Γ:G):Prop:=e3 Γ D.rt
def tu (e3:TE3) (D:E3) (Γ:G):Prop:=e3 Γ fun _ Γ1=>D.nx Γ1
theorem bh:jB K X [] zu zE:=⟨xZ,fun B F σ H Γ D D3 e k q=>k.nx F σ H Γ (aE.refl F) e q⟩
theorem ah (h1:P3S K X st t t3) (h2:jB K X rest u u3):jB K X (st::rest) (Aw t u) (AH t3 u3):=⟨pB h1.pe h2.pe,fun B F σ H Γ D D3 e k q=>
 h1.rf B F σ H Γ _ { D3 with nx:=u3 D3 } e ⟨fun F' σ' H' Γ' s e' q'=>h2.rf B F' σ' H' Γ' _ D3 e' (k.mono s) q',k.rt,k.bk,k.ct⟩ q⟩
theorem aj (h1:P3S K X st t t3):jB K X [st] t t3:=⟨xY h1.pe,h1.rf⟩
theorem aB (h:P3 K X e te e3):P3S K X (.Return (some e) pos) (CO te) (C5 e3):=⟨AY h.pe,fun B F σ H Γ D D3 e k q=>
 h.rf B F σ H Γ _ _ e q fun v H' ⟨F',Γ',r,s,e',rv,q'⟩=>k.rt F' σ H' Γ' v r s e' rv q'⟩
theorem cK (h:P3 K X e te e3) (hs:swapsWith e none pos.line X.env=pure false:=by rfl):P3S K X (.Expr e pos) (zv te) (tu e3):=⟨x4 h.pe hs,fun B F σ H Γ D D3 e k q=>
 h.rf B F σ H Γ _ _ e q fun v H' ⟨F',Γ',r,s,e',rv,q'⟩=>k.nx F' σ H' Γ' s e' q'⟩
def DM (A3:TT3) (t u:TS3) (D:E3) (Γ:G):Prop:=A3 Γ fun c Γ1=>match c with
 | true=>t D Γ1
 | false=>u D Γ1
theorem bI {c:Expr} {a b:List Stmt} {tc:TT} {A3:TT3} (hc:P3T K X c tc A3) (ha:jB K X a t t3) (hb:jB K X b u u3):P3S K X (.If c a b pos) (CS tc t u) (DM A3 t3 u3):=⟨Dh hc.pe ha.pe hb.pe,fun B F σ H Γ D D3 e k q=>
 hc.rf B F σ H Γ _ _ e q fun c H' ⟨F',Γ',s,e',q'⟩=>by
  cases c with
  | true=>exact wc (ha.rf B F' σ H' Γ' D D3 e' (k.mono s) q')
  | false=>exact we (hb.rf B F' σ H' Γ' D D3 e' (k.mono s) q')⟩
theorem jI:P3S K X st uM (fun _ _=>False):=⟨vn,fun B F σ H Γ D D3 e k q=>q⟩
def xG (i:Nat) (e3:TE3) (D:E3) (Γ:G):Prop:=e3 Γ fun r Γ1=>bc Γ1 i∧D.nx (Γ1.set i (some r.sl))
theorem sx {i:Nat} (h:Ref K te e3):zq K (j6 te (g0 i)) (xG i e3):=fun B F σ H Γ D D3 e k q=>
 h B F σ H Γ _ _ e q fun v H' ⟨F',Γ',r,s,e',rv,hf,q'⟩=>by
  obtain⟨F2,r2,s2,e2,rv2,h2,hn⟩:=e'.norm rv
  exact k.nx F2 _ H' _ (s.trans s2) (by have:=e2.set hf rv2 hn;rw[h2] at this;exact this) q'
theorem aU {i:Nat} {x:Str} {pos':Pos} (hN:X.N.Nodup) (hi:X.N[i]?=some x) (hx:Loc X.env.scope x) (he:P3 K X e te e3) (hs:swapsWith e (some (.Name x pos')) pos.line X.env=pure false:=by rfl) (hf:X.fn x=true∨X.env.scope.names.lookup x=some .local:=by first | exact .inl rfl | exact .inr rfl | assumption) :
  P3S K X (.Assign [.Name x pos'] e pos) (j6 te (g0 i)) (xG i e3):=⟨AX hN hi hx he.pe hs hf,sx he.rf⟩
def Fy (i j:Nat) (t3:TA3) (D:E3) (Γ:G):Prop:=t3 Γ fun ds Γ1=>∃ d d',ds=[d,d']∧bc Γ1 i∧bc (Γ1.set i (some (.fz d))) j∧D.nx ((Γ1.set i (some (.fz d))).set j (some (.fz d')))
def gives (Γ:G):List Nat→List D→Option G
 | [],[]=>some Γ
 | i::is,d::ds=>gives (Γ.set i (some (.fz d))) is ds
 | _,_=>none
def frees (Γ:G):List Nat→List D→Prop
 | [],_=>True
 | i::is,d::ds=>bc Γ i∧frees (Γ.set i (some (.fz d))) is ds
 | _,_=>True
def kc:List Nat→TGs
 | []=>D0
 | i::is=>zW (g0 i) (kc is)
theorem mj {is:List Nat}:∀ {Γ:G} {σ:L2.St} {vs:List V} {ds:List D} {Γ':G} {QQ:L2.St→Hp→Prop},En K B F σ H Γ→av K F ds vs→gives Γ is ds=some Γ'→frees Γ is ds→(∀ σ',En K B F σ' H Γ'→QQ σ' H)→kc is vs σ H QQ:=by
 induction is with
 | nil=>
  intro Γ σ vs ds Γ' QQ e r g f k
  cases ds with
  | nil=>cases g;cases r;exact⟨rfl,k σ e⟩
  | cons d ds=>cases g
 | cons i is ih=>
  intro Γ σ vs ds Γ' QQ e r g f k
  cases ds with
  | nil=>cases g
  | cons d ds=>
   obtain⟨v,ws,rfl,r1,r2⟩:=r
   exact⟨v,ws,rfl,ih (e.set (r:=.fz d) f.1 r1) r2 g f.2 k⟩
def zx (is:List Nat) (e3:TE3) (D:E3) (Γ:G):Prop:=e3 Γ fun r Γ1=>∃ ds Γ',r.d=.tup ds∧gives Γ1 is ds=some Γ'∧frees Γ1 is ds∧D.nx Γ'
theorem nG {is:List Nat}:∀ {Γ Γ':G} {ds:List D},gives Γ is ds=some Γ'→ds.length=is.length:=by
 induction is with
 | nil=>intro Γ Γ' ds h;cases ds with | nil=>rfl | cons=>cases h
 | cons i is ih=>intro Γ Γ' ds h;cases ds with | nil=>cases h | cons d ds=>simp [ih h]
theorem su {es:List Expr} {kt:Nat} {pt:Pos} {is:List Nat} (hK:X.K=K) (he:P3 K X e te e3) (hg:PGs X es (kc is)) (hc:X.calm=true) (hn:(assignEach es X.env).length=is.length:=by rfl) (hst:(assignEach es X.env).findIdx? (·.1)=none:=by rfl)
  (hs:swapsWithSole [.Tuple es kt pt] e pos.line X.env=pure false:=by rfl) (hw:swappedStores [.Tuple es kt pt] e X.env=pure none:=by rfl) (h1:(assignEach [.Tuple es kt pt] X.env).map (·.2)=[assign (.Tuple es kt pt) X.env]:=by rfl) :
  P3S K X (.Assign [.Tuple es kt pt] e pos) (j6 te (B8 K is.length (kc is))) (zx is e3):=⟨by subst hK;exact qN he.pe (vp hc hg hn hst) hs hw h1,fun B F σ H Γ D D3 e k q=>
 he.rf B F σ H Γ _ _ e q fun v H' ⟨F',Γ',r,s,e',rv,ds,Γ2,h1,h2,h3,q'⟩=>by
  obtain⟨F2,s2,e2,r2⟩:=e'.frozen rv
  rw[h1] at r2
  obtain⟨p,vs,rfl,h4,h5⟩:=r2
  refine⟨p,vs,rfl,.inl (.inl (e2.sub _ _ h4)),by rw[h5.length,nG h2],mj e2 h5 h2 h3 fun σ' e3=>k.nx F2 σ' _ Γ2 (s.trans s2) e3 q'⟩⟩
def putD (Γ:G) (i:Nat) (d:D):G:=match Γ[i]? with
 | some (some (.ow _))=>Γ.set i (some (.ow d))
 | some (some (.ln _))=>Γ.set i (some (.ln d))
 | _=>Γ
def ck (Γ:G) (i:Nat):Option (List D):=match Γ[i]? with
 | some (some (.ow (.lst xs)))=>some xs
 | some (some (.ln (.lst xs)))=>some xs
 | _=>none
theorem nE {i:Nat} {xs:List D} (h:ck Γ i=some xs):Hld Γ i (.lst xs):=by
 unfold ck at h
 split at h
 ·cases h;rename_i q;exact .inl q
 ·cases h;rename_i q;exact .inr q
 ·cases h
theorem En.Dy (e:En K B F σ H Γ) {i:Nat} {d0 d1:D} (hh:Hld Γ i d0) {p:Addr} (hp:σ[i]?=some (some (V.ref p))) {o1:HO} (r:Own K F (upd H p o1) p d1):En K B F σ (upd H p o1) (putD Γ i d1):=by
 obtain⟨p0,a0,b0,c0⟩:=e.hl i _ hh
 rw[hp] at a0;cases a0
 obtain⟨o,ho⟩:=c0.some
 have hput:(Γ[i]?=some (some (Sl.ow d0))∧putD Γ i d1=Γ.set i (some (.ow d1)))∨(Γ[i]?=some (some (Sl.ln d0))∧putD Γ i d1=Γ.set i (some (.ln d1))):=by
  rcases hh with q | q
  ·exact .inl ⟨q,by unfold putD;rw[q]⟩
  ·exact .inr ⟨q,by unfold putD;rw[q]⟩
 have il:i < Γ.length:=by rcases hput with ⟨q,_⟩ | ⟨q,_⟩ <;> exact(List.getElem?_eq_some_iff.mp q).1
 have other:∀ {j:Nat},j≠i→(putD Γ i d1)[j]?=Γ[j]?:=fun z=>by
  rcases hput with ⟨_,q⟩ | ⟨_,q⟩ <;> rw[q,aw (Ne.symm z)]
 have same:∀ {s:Sl},(putD Γ i d1)[i]?=some (some s)→(s=.ow d1∧Γ[i]?=some (some (Sl.ow d0)))∨(s=.ln d1∧Γ[i]?=some (some (Sl.ln d0))):=fun {s} q=>by
  rcases hput with ⟨a,b⟩ | ⟨a,b⟩
  ·rw[b,au il] at q;cases q;exact .inl ⟨rfl,a⟩
  ·rw[b,au il] at q;cases q;exact .inr ⟨rfl,a⟩
 have hld:∀ {j x},Hld (putD Γ i d1) j x→(j=i∧x=d1)∨(j≠i∧Hld Γ j x):=fun {j x} q=>by
  by_cases z:j=i
  ·subst z
   left
   rcases q with q | q <;> rcases same q with ⟨h,_⟩ | ⟨h,_⟩ <;> cases h <;> exact⟨rfl,rfl⟩
  ·right;exact⟨z,by unfold Hld at q ⊢;rw[other z] at q;exact q⟩
 have hld':∀ {j x},Hld (putD Γ i d1) j x→∃ y,Hld Γ j y:=fun q=>by
  rcases hld q with ⟨rfl,_⟩ | ⟨_,q⟩
  ·exact⟨_,hh⟩
  ·exact⟨_,q⟩
 refine⟨?_,?_,?_,?_,?_,?_,?_,?_,e.keep,e.new,?_,?_⟩
 ·intro b u q
  have z:b≠p:=fun z=>by subst z;rw[b0] at q;cases q
  rw[ak z];exact e.sub b u q
 ·rcases hput with ⟨_,q⟩ | ⟨_,q⟩ <;> rw[q,List.length_set] <;> exact e.len
 ·intro j d q
  by_cases z:j=i
  ·subst z;rcases same q with ⟨h,_⟩ | ⟨h,_⟩ <;> cases h
  ·rw[other z] at q;exact e.fz j d q
 ·intro j d q
  rcases hld q with ⟨rfl,rfl⟩ | ⟨z,q⟩
  ·exact⟨p,hp,b0,r⟩
  ·obtain⟨p',a,b,c⟩:=e.hl j d q
   have ne:p'≠p:=fun y=>z (e.dis j i _ _ p q hh (y ▸ a) hp)
   exact⟨p',a,b,c.mono (aE.refl F) (ak ne)⟩
 ·intro j d p' q a
  by_cases z:j=i
  ·subst z
   rcases same q with ⟨h,g⟩ | ⟨h,g⟩
   ·exact e.ow j _ p' g a
   ·cases h
  ·rw[other z] at q;exact e.ow j d p' q a
 ·intro j d p' q a
  by_cases z:j=i
  ·subst z
   rcases same q with ⟨h,g⟩ | ⟨h,g⟩
   ·cases h
   ·exact e.ln j _ p' g a
  ·rw[other z] at q;exact e.ln j d p' q a
 ·intro j k d d' p' q1 q2
  obtain⟨y1,h1⟩:=hld' q1
  obtain⟨y2,h2⟩:=hld' q2
  exact e.dis j k y1 y2 p' h1 h2
 ·intro j p' q
  obtain⟨a,d,b⟩:=e.par j p' q
  refine⟨a,?_⟩
  by_cases z:j=i
  ·subst z
   rcases hput with ⟨c,_⟩ | ⟨_,c⟩
   ·rw[b] at c;cases c
   ·exact⟨_,by rw[c,au il]⟩
  ·exact⟨d,by rw[other z];exact b⟩
 ·intro b u q n
  have z:b≠p:=fun z=>by
   subst z
   rcases hh with g | g
   ·rw[e.ow i _ _ g hp] at q;cases q
   ·exact n i (e.ln i _ _ g hp)
  rw[ak z];exact e.rest b u q n
 ·intro b q
  by_cases z:b=p
  ·subst z;rw[aD] at q;cases q
  ·rw[ak z] at q;exact e.dom b q
theorem En.mut (e:En K B F σ H Γ) {i:Nat} {xs xs':List D} (h:ck Γ i=some xs) {p:Addr} (hp:σ[i]?=some (some (V.ref p))) {vs':List V} (r:av K F xs' vs'):En K B F σ (upd H p (.lst vs')) (putD Γ i (.lst xs')):=
 e.Dy (nE h) hp ⟨vs',aD,r⟩
end
end L3
namespace L3
open PySem L2 PySem.Spec
section
variable {K:PySem.W.Frag} {X:Cx} {B:Bs} {F H:Hp} {σ:L2.St} {Γ:G} {pos:Pos}
def newD:List (Option Nat)→G→Nat→Option D
 | some j'::ls,s::cs,j=>if j'=j then (match s with
   | some (.ln d)=>some d
   | _=>newD ls cs j) else newD ls cs j
 | none::ls,_::cs,j=>newD ls cs j
 | _,_,_=>none
theorem fc:∀ {ls:List (Option Nat)} {cs:G} {j:Nat} {d:D},newD ls cs j=some d→∃ k:Nat,ls[k]?=some (some j)∧cs[k]?=some (some (Sl.ln d))
 | some j'::ls,s::cs,j,d,h=>by
  unfold newD at h
  split at h
  ·rename_i e
   subst e
   split at h
   ·cases h;exact⟨0,rfl,rfl⟩
   ·obtain⟨k,a,b⟩:=fc h
    exact⟨k + 1,by simpa using a,by simpa using b⟩
  ·obtain⟨k,a,b⟩:=fc h
   exact⟨k + 1,by simpa using a,by simpa using b⟩
 | none::ls,_::cs,j,d,h=>by
  unfold newD at h
  obtain⟨k,a,b⟩:=fc h
  exact⟨k + 1,by simpa using a,by simpa using b⟩
 | [],_,_,_,h=>by unfold newD at h;cases h
 | some _::_,[],_,_,h=>by unfold newD at h;cases h
 | none::_,[],_,_,h=>by unfold newD at h;cases h
theorem lq:∀ {ls:List (Option Nat)} {cs:G} {j k:Nat} {d:D},ls[k]?=some (some j)→cs[k]?=some (some (Sl.ln d))→∃ d',newD ls cs j=some d'
 | [],_,_,_,_,h,_=>by simp at h
 | _::_,[],_,_,_,_,h=>by simp at h
 | some j'::ls,s::cs,j,0,d,h,h'=>by
  simp at h h'
  subst h h'
  exact⟨d,by unfold newD;rw[if_pos rfl]⟩
 | none::ls,s::cs,j,0,d,h,h'=>by simp at h
 | some j'::ls,s::cs,j,k + 1,d,h,h'=>by
  unfold newD
  split
  ·split
   ·exact⟨_,rfl⟩
   ·exact lq (k:=k) (by simpa using h) (by simpa using h')
  ·exact lq (k:=k) (by simpa using h) (by simpa using h')
 | none::ls,s::cs,j,k + 1,d,h,h'=>by
  unfold newD
  exact lq (k:=k) (by simpa using h) (by simpa using h')
def fM (n:Option D):Option Sl→Option Sl
 | some (.ow d)=>some (.ow (n.getD d))
 | some (.ln d)=>some (.ln (n.getD d))
 | s=>s
def aT (ls:List (Option Nat)) (Γ cs:G):G:=Γ.mapIdx fun j s=>fM (newD ls cs j) s
theorem bM {ls:List (Option Nat)} {cs:G} {j:Nat}:(aT ls Γ cs)[j]?=(Γ[j]?).map (fM (newD ls cs j)):=by
 unfold aT
 rw[List.getElem?_mapIdx]
theorem En.back {F1 H1:Hp} {own':List (Nat×Addr)} {σc:L2.St} {Γc:G} {ls:List (Option Nat)} (e:En K B F1 σ H1 Γ) (e2:En K ⟨F1,H1,own'⟩ F σc H Γc)
  (h1:∀ k p,(k,p)∈own'→∃ j d,ls[k]?=some (some j)∧Hld Γ j d∧σ[j]?=some (some (V.ref p))):En K B F σ H (aT ls Γ Γc):=by
 have gfz:∀ {j d},(aT ls Γ Γc)[j]?=some (some (Sl.fz d))→Γ[j]?=some (some (Sl.fz d)):=fun {j d} q=>by
  rw[bM] at q
  cases w:Γ[j]? with
  | none=>rw[w] at q;cases q
  | some s=>
   rw[w] at q
   cases s with
   | none=>cases q
   | some s=>cases s <;> cases q;rfl
 have gow:∀ {j d},(aT ls Γ Γc)[j]?=some (some (Sl.ow d))→∃ d0,Γ[j]?=some (some (Sl.ow d0))∧d=(newD ls Γc j).getD d0:=fun {j d} q=>by
  rw[bM] at q
  cases w:Γ[j]? with
  | none=>rw[w] at q;cases q
  | some s=>
   rw[w] at q
   cases s with
   | none=>cases q
   | some s=>cases s <;> cases q;exact⟨_,rfl,rfl⟩
 have gln:∀ {j d},(aT ls Γ Γc)[j]?=some (some (Sl.ln d))→∃ d0,Γ[j]?=some (some (Sl.ln d0))∧d=(newD ls Γc j).getD d0:=fun {j d} q=>by
  rw[bM] at q
  cases w:Γ[j]? with
  | none=>rw[w] at q;cases q
  | some s=>
   rw[w] at q
   cases s with
   | none=>cases q
   | some s=>cases s <;> cases q;exact⟨_,rfl,rfl⟩
 have gh:∀ {j d},Hld (aT ls Γ Γc) j d→∃ d0,Hld Γ j d0∧d=(newD ls Γc j).getD d0:=fun {j d} q=>by
  rcases q with q | q
  ·obtain⟨d0,a,b⟩:=gow q;exact⟨d0,.inl a,b⟩
  ·obtain⟨d0,a,b⟩:=gln q;exact⟨d0,.inr a,b⟩
 refine⟨e2.sub,by unfold aT;rw[List.length_mapIdx];exact e.len,?_,?_,?_,?_,?_,?_,e.keep.trans e2.keep,?_,?_,?_⟩
 ·intro j d q
  obtain⟨v,a,b⟩:=e.fz j d (gfz q)
  exact⟨v,a,b.mono e2.keep⟩
 ·intro j d q
  obtain⟨d0,w0,rfl⟩:=gh q
  obtain⟨p,a,b,c⟩:=e.hl j d0 w0
  obtain⟨o,ho⟩:=c.some
  have fp:F p=none:=by
   cases w:F p with
   | none=>rfl
   | some u=>
    rcases e2.new p u w with z | z
    ·rw[show F1 p=some u from z] at b;cases b
    ·rw[show H1 p=none from z] at ho;cases ho
  refine⟨p,a,fp,?_⟩
  cases w:newD ls Γc j with
  | some d'=>
   obtain⟨k,x,y⟩:=fc w
   obtain⟨p',a',b',c'⟩:=e2.hl k d' (.inr y)
   obtain⟨j2,d2,x2,_,a2⟩:=h1 k p' (e2.ln k d' p' y a')
   rw[x] at x2;cases x2
   rw[a] at a2;cases a2
   exact c'
  | none=>
   have hk:∀ k,(k,p)∉own':=fun k hk=>by
    obtain⟨j2,d2,x2,q2,a2⟩:=h1 k p hk
    obtain⟨_,d3,y⟩:=e2.par k p hk
    have:j2=j:=e.dis j2 j d2 d0 p q2 w0 a2 a
    subst this
    obtain⟨d4,z⟩:=lq x2 y
    rw[w] at z;cases z
   have hp:H p=H1 p:=by rw[ho];exact e2.rest p o ho hk
   exact c.mono e2.keep hp
 ·intro j d p q a
  obtain⟨d0,q,_⟩:=gow q
  exact e.ow j d0 p q a
 ·intro j d p q a
  obtain⟨d0,q,_⟩:=gln q
  exact e.ln j d0 p q a
 ·intro i j d d' p q1 q2
  obtain⟨d0,q1,_⟩:=gh q1
  obtain⟨d1,q2,_⟩:=gh q2
  exact e.dis i j d0 d1 p q1 q2
 ·intro j p q
  obtain⟨a,d,b⟩:=e.par j p q
  exact⟨a,_,by rw[bM,b];rfl⟩
 ·intro b o q
  rcases e2.new b o q with z | z
  ·exact e.new b o z
  ·exact .inr (e.dom b z)
 ·intro b o q n
  have q1:=e.rest b o q n
  refine e2.rest b o q1 fun k hk=>?_
  obtain⟨j,d,x,y,a⟩:=h1 k b hk
  rcases y with y | y
  ·rw[e.ow j d b y a] at q;cases q
  ·exact n j (e.ln j d b y a)
 ·intro b q
  exact e.dom b (e2.dom b q)
structure ItR (K:PySem.W.Frag) (F:Hp) (J:It) (xs:List D):Prop where
 go:∀ i H',aE F H'→i < xs.length→J.go i H'
 stop:∀ i H',aE F H'→i=xs.length→J.stop i H'
 yld:∀ i H' x H'' d,aE F H'→xs[i]?=some d→J.yld i H' x H''→(H''=H'∧Rep K F d x)∨∃ t vs ds,H' t=none∧H''=upd H' t (.tup vs)∧x=.ref t∧av K F ds vs∧d=.tup ds
abbrev TI3:=G→(List D→G→Prop)→Prop
def xo (K:PySem.W.Frag) (t:TI) (i3:TI3):Prop:=∀ (B:Bs) (F:Hp) (σ:L2.St) (H:Hp) (Γ:G) (Q:List D→G→Prop) (R:It→Hp→Prop),En K B F σ H Γ→i3 Γ Q→(∀ J H1 F1 Γ1 xs,aE F F1→En K B F1 σ H1 Γ1→ItR K F1 J xs→Q xs Γ1→R J H1)→t σ H R
structure P3I (K:PySem.W.Frag) (X:Cx) (tg iter:Expr) (t:TI) (i3:TI3):Prop where
 pe:PI X tg iter t
 rf:xo K t i3
abbrev TG3:=D→G→(G→Prop)→Prop
def uA (K:PySem.W.Frag) (g:TG) (g3:TG3):Prop:=∀ (B:Bs) (F:Hp) (σ:L2.St) (H:Hp) (Γ:G) (v:V) (d:D) (Q:G→Prop) (QQ:L2.St→Hp→Prop),En K B F σ H Γ→Rep K F d v→g3 d Γ Q→(∀ σ' Γ',En K B F σ' H Γ'→Q Γ'→QQ σ' H)→g v σ H QQ
structure P3G (K:PySem.W.Frag) (X:Cx) (tg:Expr) (g:TG) (g3:TG3):Prop where
 pe:PG X tg g
 rf:uA K g g3
def tgN (i:Nat) (d:D) (Γ:G) (Q:G→Prop):Prop:=bc Γ i∧Q (Γ.set i (some (.fz d)))
def tgT (is:List Nat) (d:D) (Γ:G) (Q:G→Prop):Prop:=∃ ds Γ',d=.tup ds∧gives Γ is ds=some Γ'∧frees Γ is ds∧Q Γ'
theorem a_ {i:Nat} {x:Str} (hN:X.N.Nodup) (hi:X.N[i]?=some x) (hx:Loc X.env.scope x) (hf:X.fn x=true∨X.env.scope.names.lookup x=some .local:=by first | exact .inl rfl | exact .inr rfl | assumption):P3G K X (.Name x pos) (g0 i) (tgN i):=
 ⟨eB hN hi hx hf,fun B F σ H Γ v d Q QQ e r q k=>k _ _ (e.set (r:=.fz d) q.1 r) q.2⟩
theorem wC {es:List Expr} {kt:Nat} {is:List Nat} (hK:X.K=K) (hg:PGs X es (kc is)) (hc:X.calm=true) (hn:(assignEach es X.env).length=is.length:=by rfl) (hst:(assignEach es X.env).findIdx? (·.1)=none:=by rfl) :
  P3G K X (.Tuple es kt pos) (B8 K is.length (kc is)) (tgT is):=⟨by subst hK;exact vp hc hg hn hst,fun B F σ H Γ v d Q QQ e r q k=>by
 obtain⟨ds,Γ',rfl,h1,h2,q⟩:=q
 obtain⟨p,vs,rfl,h4,h5⟩:=r
 exact⟨p,vs,rfl,.inl (.inl (e.sub _ _ h4)),by rw[h5.length,nG h1],mj e h5 h1 h2 fun σ' e'=>k σ' Γ' e' q⟩⟩
theorem ItR.turn {J:It} {xs:List D} (R:ItR K F J xs) {F' H' H'':Hp} (s:aE F F') (e:En K B F' σ H' Γ) {i:Nat} {d:D} {x:V} (hd:xs[i]?=some d) (y:J.yld i H' x H''):∃ F2,aE F' F2∧En K B F2 σ H'' Γ∧Rep K F2 d x:=by
 rcases R.yld i H' x H'' d (s.trans e.sub) hd y with ⟨rfl,r⟩ | ⟨t,vs,ds,h1,rfl,rfl,r,rfl⟩
 ·exact⟨F',aE.refl F',e,r.mono s⟩
 ·exact⟨upd F' t (.tup vs),bw (e.nof h1),(e.alloc h1 _).freeze (e.nof h1) aD (e.dom _ h1) (e.pO h1),t,vs,rfl,aD,r.mono (s.trans (bw (e.nof h1)))⟩
def Ci (i3:TI3) (g3:TG3) (b3:TS3) (D:E3) (Γ:G):Prop:=i3 Γ fun xs Γ1=>∃ Iv:Nat→G→Prop,Iv 0 Γ1∧(∀ k d Γ,xs[k]?=some d→Iv k Γ→g3 d Γ fun Γ'=>b3 { D with nx:=Iv (k + 1),ct:=Iv (k + 1),bk:=D.nx } Γ')∧∀ Γ,Iv xs.length Γ→D.nx Γ
theorem fP {tg iter:Expr} {body:List Stmt} {wi:TI} {i3:TI3} {g:TG} {g3:TG3} {tb:TS} {b3:TS3} (hp:PassesOwn (model X.prog X.w) X.A X.env X.xe) (hc:X.calm=true) (hi:P3I K X tg iter wi i3) (hg:P3G K X tg g g3) (hb:jB K X body tb b3) (hs:∀ x,foldedSetIterable iter X.env x=pure x:=by intro _;rfl) :
  P3S K X (.For tg iter body [] pos) (xy wi g tb) (Ci i3 g3 b3):=⟨qM hp hc hi.pe hg.pe hb.pe hs,fun B F σ H Γ D D3 e k q=>by
 refine hi.rf B F σ H Γ _ _ e q fun J H1 F1 Γ1 xs s1 e1 R ⟨Iv,i0,it,ie⟩=>?_
 refine⟨fun i m σ H=>m=xs.length - i∧i≤xs.length∧∃ F' Γ',aE F1 F'∧En K B F' σ H Γ'∧Iv i Γ',⟨_,rfl,Nat.zero_le _,F1,Γ1,aE.refl _,e1,i0⟩,?_⟩
 rintro i m σ2 H2 ⟨rfl,hi',F2,Γ2,s2,e2,iv⟩
 by_cases lt:i < xs.length
 ·refine .inr ⟨R.go i H2 (s2.trans e2.sub) lt,fun σ' H'=>∃ F' Γ',aE F1 F'∧En K B F' σ' H' Γ'∧Iv (i + 1) Γ',fun σ' H' ⟨F',Γ',a,b,c⟩=>⟨xs.length - (i + 1),by omega,rfl,lt,F',Γ',a,b,c⟩,fun x H3 y=>?_⟩
  have hd:xs[i]?=some xs[i]:=List.getElem?_eq_getElem lt
  obtain⟨F3,s3,e3,r3⟩:=R.turn s2 e2 hd y
  refine hg.rf B F3 σ2 H3 Γ2 x _ _ _ e3 r3 (it i _ Γ2 hd iv) fun σ' Γ' e4 q4=>?_
  have s4:=s2.trans s3
  refine hb.rf B F3 σ' H3 Γ' _ { D3 with nx:=Iv (i + 1),ct:=Iv (i + 1),bk:=D3.nx } e4 ⟨fun F' σ' H' Γ' s e q=>⟨F',Γ',s4.trans s,e,q⟩,fun F' σ' H' Γ' v r s e rv q=>k.rt F' σ' H' Γ' v r ((s1.trans s4).trans s) e rv q,fun F' σ' H' Γ' s e q=>k.nx F' σ' H' Γ' ((s1.trans s4).trans s) e q,fun F' σ' H' Γ' s e q=>⟨F',Γ',s4.trans s,e,q⟩⟩ q4
 ·have z:i=xs.length:=by omega
  subst z
  exact .inl ⟨R.stop _ H2 (s2.trans e2.sub) rfl,k.nx F2 σ2 H2 Γ2 (s1.trans s2) e2 (ie Γ2 iv)⟩⟩
def iL3 (a3:TE3) (Γ:G) (Q:List D→G→Prop):Prop:=a3 Γ fun r Γ1=>∃ xs,r.d=.lst xs∧Q xs Γ1
theorem cD {tg l:Expr} {tl:TE} {l3:TE3} (hK:X.K=K) (h:P3 K X l tl l3):P3I K X tg l (sW K tl) (iL3 l3):=⟨by subst hK;exact oa h.pe,fun B F σ H Γ Q R e q k=>
 h.rf B F σ H Γ _ _ e q fun v H' ⟨F',Γ',r,s,e',rv,xs,hx,q'⟩=>by
  obtain⟨F2,s2,e2,r2⟩:=e'.frozen rv
  rw[hx] at r2
  obtain⟨p,vs,rfl,h1,h2⟩:=r2
  refine⟨p,rfl,⟨vs,SqL.of (e2.sub _ _ h1)⟩,k _ H' F2 Γ' xs (s.trans s2) e2 ⟨fun i H'' sm lt=>?_,fun i H'' sm ei=>?_,fun i H'' x H3 d sm hd y=>?_⟩ q'⟩
  ·rw[← h2.length] at lt
   exact⟨vs,vs[i],SqL.of (sm _ _ h1),by simp [lt]⟩
  ·exact⟨vs,SqL.of (sm _ _ h1),by rw[h2.length];omega⟩
  ·obtain⟨e1,y⟩:=y
   obtain⟨d',hd',r⟩:=h2.yL (y vs (SqL.of (sm _ _ h1)))
   rw[hd] at hd';cases hd'
   exact .inl ⟨e1,r⟩⟩
def rng (lo:Int) (n:Nat):List D:=(List.range n).map fun (k:Nat)=>D.int (lo + (k:Int))
theorem C1 {lo:Int} {n:Nat}:ItR K F (Itr lo n) (rng lo n):=by
 have hl:(rng lo n).length=n:=by simp [rng]
 refine⟨fun i H' _ lt=>by rw[hl] at lt;exact lt,fun i H' _ e=>by rw[hl] at e;exact Nat.le_of_eq e.symm,fun i H' x H'' d _ hd y=>?_⟩
 obtain⟨e1,e2⟩:=y
 subst e1 e2
 refine .inl ⟨rfl,?_⟩
 have hi:i < n:=by have:=(List.getElem?_eq_some_iff.mp hd).1;rw[hl] at this;exact this
 have:(rng lo n)[i]?=some (.int (lo + i)):=by unfold rng;rw[List.getElem?_map,List.getElem?_range hi];rfl
 rw[this] at hd;cases hd
 rfl
def iR1 (t3:TA3) (Γ:G) (Q:List D→G→Prop):Prop:=t3 Γ fun ds Γ1=>∃ j:Int,ds=[.int j]∧-(2 ^ 62)≤j∧j < 2 ^ 62∧Q (rng 0 j.toNat) Γ1
def iR2 (t3:TA3) (Γ:G) (Q:List D→G→Prop):Prop:=t3 Γ fun ds Γ1=>∃ i j:Int,ds=[.int i,.int j]∧(-(2 ^ 62)≤i∧i < 2 ^ 62∧-(2 ^ 62)≤j∧j < 2 ^ 62)∧Q (rng i (j - i).toNat) Γ1
theorem cV {tg a:Expr} {ta:TA} {a3:TA3} {p pos:Pos} (hg:Gl X "range") (hm:X.mg "range"=none) (ha:P3A K X [a] ta a3) (hs:starEach [a] X.env=[(false,eval a X.env)]:=by rfl):P3I K X tg (.Call (.Name "range" p) [a] [] pos) (zN ta) (iR1 a3):=⟨t7 hg hm ha.pe hs,fun B F σ H Γ Q R e q k=>
 ha.rf B F σ H Γ _ _ e q fun vs H' ⟨F',Γ',ds,s,e',rv,j,h1,h2,h3,q'⟩=>by
  subst h1
  obtain⟨v,ws,rfl,r1,r2⟩:=rv
  cases r1;cases r2
  exact⟨j,rfl,h2,h3,k _ H' F' Γ' _ s e' C1 q'⟩⟩
def tM (xs ys:List D):List D:=(xs.zip ys).map fun p=>.tup [p.1,p.2]
def iZ3 (t3:TA3) (Γ:G) (Q:List D→G→Prop):Prop:=t3 Γ fun ds Γ1=>∃ xs ys,ds=[.lst xs,.lst ys]∧Q (tM xs ys) Γ1
theorem lD {xs ys:List D} {i:Nat} {d:D} (h:(tM xs ys)[i]?=some d):∃ x y,xs[i]?=some x∧ys[i]?=some y∧d=.tup [x,y]:=by
 unfold tM at h
 rw[List.getElem?_map] at h
 cases q:(xs.zip ys)[i]? with
 | none=>rw[q] at h;cases h
 | some p=>
  rw[q] at h;cases h
  rw[List.getElem?_zip_eq_some] at q
  exact⟨_,_,q.1,q.2,rfl⟩
theorem BR {a b:Expr} {ta:TA} {a3:TA3} {es:List Expr} {kt:Nat} {tp p pos:Pos} (hg:Gl X "zip") (hm:X.mg "zip"=none) (ha:P3A K X [a,b] ta a3) (hs:starEach [a,b] X.env=[(false,eval a X.env),(false,eval b X.env)]:=by rfl) (hs2:starEach [b] X.env=[(false,eval b X.env)]:=by rfl) :
  P3I K X (.Tuple es kt tp) (.Call (.Name "zip" p) [a,b] [] pos) (DN ta) (iZ3 a3):=⟨A1 hg hm ha.pe hs hs2,fun B F σ H Γ Q R e q k=>
 ha.rf B F σ H Γ _ _ e q fun vs H' ⟨F',Γ',ds,s,e',rv,xs,ys,h1,q'⟩=>by
  subst h1
  obtain⟨v,ws,rfl,⟨p1,vs1,rfl,g1,r1⟩,w,ws',rfl,⟨p2,vs2,rfl,g2,r2⟩,r3⟩:=rv
  cases r3
  refine⟨p1,p2,vs1,vs2,rfl,e'.sub _ _ g1,e'.sub _ _ g2,k _ H' F' Γ' _ s e' ⟨fun i H'' sm lt=>?_,fun i H'' sm ei=>?_,fun i H'' x H3 d sm hd y=>?_⟩ q'⟩
  ·obtain⟨x,y,hx,hy,_⟩:=lD (List.getElem?_eq_getElem lt)
   obtain⟨v,hv,_⟩:=r1.get hx
   obtain⟨w,hw,_⟩:=r2.get hy
   exact⟨vs1,vs2,v,w,sm _ _ g1,sm _ _ g2,hv,hw⟩
  ·refine⟨vs1,vs2,sm _ _ g1,sm _ _ g2,?_⟩
   subst ei
   unfold tM
   rw[List.length_map,List.length_zip,r1.length,r2.length]
   omega
  ·obtain⟨t,zs1,zs2,x1,y1,ht,a1,a2,b1,b2,rfl,rfl⟩:=y
   rw[sm _ _ g1] at a1;cases a1
   rw[sm _ _ g2] at a2;cases a2
   obtain⟨dx,dy,hx,hy,rfl⟩:=lD hd
   obtain⟨v,hv,rv⟩:=r1.get hx
   obtain⟨w,hw,rw'⟩:=r2.get hy
   rw[b1] at hv;cases hv
   rw[b2] at hw;cases hw
   exact .inr ⟨t,_,[dx,dy],ht,rfl,rfl,⟨_,_,rfl,rv,_,_,rfl,rw',rfl⟩,rfl⟩⟩
def Ec (xs:List D):List D:=xs.mapIdx fun i x=>.tup [.int i,x]
def iE3 (t3:TA3) (Γ:G) (Q:List D→G→Prop):Prop:=t3 Γ fun ds Γ1=>∃ xs,ds=[.lst xs]∧Q (Ec xs) Γ1
theorem gx {p:Addr} {vs:List V} (h:H p=some (.lst vs)):tyV K "list" (.ref p) H:=.inl ⟨rfl,_,SqL.of h⟩
theorem En.ck (e:En K B F σ H Γ) {i:Nat} {xs:List D} (h:ck Γ i=some xs):∃ p vs,σ[i]?=some (some (V.ref p))∧H p=some (.lst vs)∧av K F xs vs:=by
 obtain⟨p,a,b,vs,c,d⟩:=e.hl i _ (nE h)
 exact⟨p,vs,a,c,d⟩
def Ct (i:Nat) (e3:TE3) (Γ:G) (Q:RV→G→Prop):Prop:=(∃ xs,ck Γ i=some xs)∧e3 Γ fun r Γ1=>∃ xs,ck Γ1 i=some xs∧xs.length < sizeLine∧Q (.fz .non) (putD Γ1 i (.lst (xs++[r.d])))
theorem xQ {te:TE} {e3:TE3} (i:Nat) (h:Ref K te e3):Ref K (tBM K "list" kZ (cY i) (gg te kL)) (Ct i e3):=by
 intro B F σ H Γ Q QQ e ⟨⟨xs0,h0⟩,q⟩ k
 obtain⟨p,vs0,a0,b0,_⟩:=e.ck h0
 refine⟨_,a0,gx b0,h B F σ H Γ _ _ e q fun v H' ⟨F',Γ',r,s,e',rv,xs,hx,hz,q'⟩=>?_⟩
 obtain⟨F2,s2,e2,r2⟩:=e'.frozen rv
 obtain⟨p',vs,a,b,c⟩:=e2.ck hx
 rw[a0] at a;cases a
 exact⟨p,vs,v,rfl,rfl,b,by rw[c.length];exact hz,k _ _ ⟨F2,_,.fz .non,s.trans s2,e2.mut hx a0 (av.append (ys:=[r.d]) c ⟨v,[],rfl,r2,rfl⟩),rfl,q'⟩⟩
def ext3 (i:Nat) (b3:TB3) (Γ:G) (Q:RV→G→Prop):Prop:=(∃ xs,ck Γ i=some xs)∧b3 Γ fun r Γ1=>∃ xs ys,ck Γ1 i=some xs∧r.at Γ1=some (.lst ys)∧xs.length + ys.length≤sizeLine∧Q (.fz .non) (putD Γ1 i (.lst (xs++ys)))
def uE (i:Nat) (f:List D→List D) (Γ:G) (Q:RV→G→Prop):Prop:=∃ xs,ck Γ i=some xs∧Q (.fz .non) (putD Γ i (.lst (f xs)))
theorem av.reverse:∀ {xs:List D} {vs:List V},av K F xs vs→av K F xs.reverse vs.reverse
 | [],_,h=>by cases h;exact rfl
 | x::xs,_,⟨v,ws,h1,h2,h3⟩=>by subst h1;rw[List.reverse_cons,List.reverse_cons];exact h3.reverse.append ⟨v,[],rfl,h2,rfl⟩
theorem tX (i:Nat):Ref K (tR K "list" qJ (cY i)) (uE i fun _=>[]):=by
 intro B F σ H Γ Q QQ e ⟨xs0,h0,q⟩ k
 obtain⟨p,vs0,a0,b0,c0⟩:=e.ck h0
 exact⟨_,a0,gx b0,p,vs0,rfl,rfl,b0,k _ _ ⟨F,_,.fz .non,aE.refl F,e.mut h0 a0 (xs':=[]) rfl,rfl,q⟩⟩
theorem pf (i:Nat):Ref K (tR K "list" lP (cY i)) (uE i List.reverse):=by
 intro B F σ H Γ Q QQ e ⟨xs0,h0,q⟩ k
 obtain⟨p,vs0,a0,b0,c0⟩:=e.ck h0
 exact⟨_,a0,gx b0,p,vs0,rfl,rfl,b0,k _ _ ⟨F,_,.fz .non,aE.refl F,e.mut h0 a0 c0.reverse,rfl,q⟩⟩
variable {o e:Expr} {te:TE} {e3:TE3} {eb:TB3} {apos cpos:Pos}
theorem nq (i:Nat) {x:Str} {px:Pos} (hK:X.K=K) (hx:P3B K X (.Name x px) (cY i) (bor i)) (he:P3 K X e te e3) (hbase:attributeBase (.Name x px) "append" X.env (eval (.Name x px) X.env)=eval (.Name x px) X.env:=by rfl)
  (hfew:((backTo cpos (starEach [e] X.env)).all (fun x=>!x.1) && (backToKw cpos (keywordEach [] X.env)).all (fun x=>x.1.isSome)
   && decide ([e].length + ([]:List Keyword).length + (if ([]:List Keyword).isEmpty then 0 else 1) < 30))=true:=by rfl)
  (hline:(apos.endLine == cpos.line)=true:=by rfl) (hs:starEach [e] X.env=(false,eval e X.env)::starEach [] X.env:=by rfl) (hplain:(backTo cpos (starEach [] X.env)).any (·.1)=false:=by rfl) :
  P3 K X (.Call (.Attribute (.Name x px) "append" apos) [e] [] cpos) (tBM K "list" kZ (cY i) (gg te kL)) (Ct i e3):=
 ⟨by subst hK;exact sH PySem.F.plainAttrs_list PySem.F.slot_list_append PySem.F.type_list_append nz hx.pe (eW he.pe jg hs) hbase hfew hline hs hplain,xQ i he.rf⟩
theorem vG (i:Nat) {x:Str} {px:Pos} (hK:X.K=K) (hx:P3B K X (.Name x px) (cY i) (bor i)) (hbase:attributeBase (.Name x px) "clear" X.env (eval (.Name x px) X.env)=eval (.Name x px) X.env:=by rfl) (hline:(apos.endLine == cpos.line)=true:=by rfl) :
  P3 K X (.Call (.Attribute (.Name x px) "clear" apos) [] [] cpos) (tR K "list" qJ (cY i)) (uE i fun _=>[]):=
 ⟨by subst hK;exact qP PySem.F.plainAttrs_list PySem.F.slot_list_clear PySem.F.type_list_clear vS hx.pe hbase hline,tX i⟩
theorem qQ (i:Nat) {x:Str} {px:Pos} (hK:X.K=K) (hx:P3B K X (.Name x px) (cY i) (bor i)) (hbase:attributeBase (.Name x px) "reverse" X.env (eval (.Name x px) X.env)=eval (.Name x px) X.env:=by rfl) (hline:(apos.endLine == cpos.line)=true:=by rfl) :
  P3 K X (.Call (.Attribute (.Name x px) "reverse" apos) [] [] cpos) (tR K "list" lP (cY i)) (uE i List.reverse):=
 ⟨by subst hK;exact qP PySem.F.plainAttrs_list PySem.F.slot_list_reverse PySem.F.type_list_reverse qW hx.pe hbase hline,pf i⟩
def sr (i:Nat) (k3:TB3) (e3:TE3) (D:E3) (Γ:G):Prop:=e3 Γ fun r Γ1=>(∃ xs,ck Γ1 i=some xs)∧k3 Γ1 fun b Γ2=>∃ xs k j,ck Γ2 i=some xs∧b.at Γ2=some (.int k)∧ixN xs.length k=some j∧D.nx (putD Γ2 i (.lst (xs.set j r.d)))
theorem xI (i:Nat) {x:Str} {px p2:Pos} {k:Expr} {tk:TE} {k3:TB3} (hx:P3B K X (.Name x px) (cY i) (bor i)) (hk:P3B K X k tk k3) (he:P3 K X e te e3) (pe:PS X (.Assign [.Subscript (.Name x px) k p2] e pos) (j6 te (wA (cY i) tk pw))) :
  P3S K X (.Assign [.Subscript (.Name x px) k p2] e pos) (j6 te (wA (cY i) tk pw)) (sr i k3 e3):=⟨pe,fun B F σ H Γ D D3 e k q=>
 he.rf B F σ H Γ _ _ e q fun v H' ⟨F',Γ',r,s,e',rv,⟨xs0,h0⟩,q'⟩=>by
  obtain⟨F2,s2,e2,r2⟩:=e'.frozen rv
  obtain⟨p,vs0,a0,b0,_⟩:=e2.ck h0
  refine⟨_,a0,hk.rf B F2 σ H' Γ' _ _ e2 q' fun u H2 ⟨F3,Γ3,bo,s3,e3,rb,xs,kk,j,hx,hb,hj,q3⟩=>?_⟩
  obtain⟨p',vs,a,b,c⟩:=e3.ck hx
  rw[a0] at a;cases a
  have hu:u=.int kk:=e3.bo rb hb
  exact⟨p,vs,kk,j,rfl,hu,b,by rw[c.length];exact hj,k.nx F3 σ _ _ ((s.trans s2).trans s3) (e3.mut hx a0 (av.set (r2.mono s3) j c)) q3⟩⟩
end
end L3
namespace L3
open PySem L2 PySem.Spec
section
variable {K:PySem.W.Frag} {X:Cx} {B:Bs} {F H:Hp} {σ:L2.St} {Γ:G} {pos:Pos}
def ej:Option (Option Sl)→Option Sl
 | some (some (.fz d))=>some (.fz d)
 | some (some (.ow d))=>some (.ln d)
 | some (some (.ln d))=>some (.ln d)
 | _=>none
def ko (Γ:G):Bo→Option Sl
 | .d x=>some (.fz x)
 | .v i=>ej Γ[i]?
def aS:Option Bo→Option Nat
 | some (.v i)=>some i
 | _=>none
def vI (Γ:G) (σ:L2.St) (k:Nat):Option Bo→Option (Nat×Addr)
 | some (.v i)=>match Γ[i]?,σ[i]? with
  | some (some (.ow _)),some (some (.ref p))=>some (k,p)
  | some (some (.ln _)),some (some (.ref p))=>some (k,p)
  | _,_=>none
 | _=>none
def ownOf (Γ:G) (σ:L2.St) (bs:List (Option Bo)):List (Nat×Addr):=(List.range bs.length).filterMap fun k=>(bs[k]?).bind (vI Γ σ k)
theorem gk {bs:List (Option Bo)} {k:Nat} {p:Addr}:(k,p)∈ownOf Γ σ bs↔∃ i d,bs[k]?=some (some (Bo.v i))∧Hld Γ i d∧σ[i]?=some (some (V.ref p)):=by
 unfold ownOf
 rw[List.mem_filterMap]
 constructor
 ·rintro⟨k',_,h⟩
  cases q:bs[k']? with
  | none=>rw[q] at h;cases h
  | some o=>
   rw[q] at h
   change vI Γ σ k' o=some (k,p) at h
   unfold vI at h
   split at h
   ·rename_i i
    split at h
    ·rename_i d p' h1 h2
     cases h
     exact⟨i,d,q,.inl h1,h2⟩
    ·rename_i d p' h1 h2
     cases h
     exact⟨i,d,q,.inr h1,h2⟩
    ·cases h
   ·cases h
 ·rintro⟨i,d,h1,h2,h3⟩
  refine⟨k,List.mem_range.mpr (List.getElem?_eq_some_iff.mp h1).1,?_⟩
  rw[h1]
  show vI Γ σ k (some (Bo.v i))=_
  unfold vI
  rcases h2 with h2 | h2
  ·simp only[h2,h3]
  ·simp only[h2,h3]
def cC (Γ:G) (bs:List (Option Bo)):G:=bs.map fun o=>o.bind (ko Γ)
theorem gv {bs:List (Option Bo)} {k:Nat} {s:Sl}:(cC Γ bs)[k]?=some (some s)↔∃ bo,bs[k]?=some (some bo)∧ko Γ bo=some s:=by
 unfold cC
 rw[List.getElem?_map]
 constructor
 ·intro h
  cases q:bs[k]? with
  | none=>rw[q] at h;cases h
  | some o=>
   rw[q] at h
   cases o with
   | none=>cases h
   | some bo=>exact⟨bo,rfl,by simpa using h⟩
 ·rintro⟨bo,h1,h2⟩
  rw[h1];simp [h2]
theorem ze {bo:Bo} {d:D} (h:ko Γ bo=some (.ln d)):∃ i,bo=.v i∧Hld Γ i d:=by
 cases bo with
 | d x=>cases h
 | v i=>
  change ej Γ[i]?=_ at h
  unfold ej at h
  split at h
  ·cases h
  ·cases h;rename_i q;exact⟨i,rfl,.inl q⟩
  ·cases h;rename_i q;exact⟨i,rfl,.inr q⟩
  ·cases h
theorem zf {bo:Bo} {d:D} (h:ko Γ bo=some (.fz d)):bo=.d d∨∃ i,bo=.v i∧Γ[i]?=some (some (Sl.fz d)):=by
 cases bo with
 | d x=>cases h;exact .inl rfl
 | v i=>
  change ej Γ[i]?=_ at h
  unfold ej at h
  split at h
  ·cases h;rename_i q;exact .inr ⟨i,rfl,q⟩
  ·cases h
  ·cases h
  ·cases h
theorem oZ {bo:Bo} {d:D}:ko Γ bo≠some (.ow d):=by
 intro h
 cases bo with
 | d x=>cases h
 | v i=>change ej Γ[i]?=_ at h;unfold ej at h;split at h <;> cases h
theorem jZ {bs:List (Option Bo)}:∀ (k:Nat) (d:D),(cC Γ bs)[k]?≠some (some (Sl.ow d)):=fun k d h=>by
 obtain⟨bo,_,h⟩:=gv.mp h
 exact oZ h
theorem En.inner (e:En K B F σ H Γ) {bs:List (Option Bo)} {σc:L2.St} (hl:σc.length=bs.length) (hσ:∀ (k:Nat) (bo:Bo) (s:Sl),bs[k]?=some (some bo)→ko Γ bo=some s→∃ v,σc[k]?=some (some v)∧kF K F σ bo v)
  (nd:∀ (k k' i:Nat),bs[k]?=some (some (Bo.v i))→bs[k']?=some (some (Bo.v i))→k=k'):En K ⟨F,H,ownOf Γ σ bs⟩ F σc H (cC Γ bs):=by
 have held:∀ {k d},Hld (cC Γ bs) k d→∃ i p,bs[k]?=some (some (Bo.v i))∧Hld Γ i d∧σ[i]?=some (some (V.ref p))∧σc[k]?=some (some (V.ref p)):=fun {k d} q=>by
  rcases q with q | q
  ·obtain⟨bo,h1,h2⟩:=gv.mp q
   exact absurd h2 oZ
  ·obtain⟨bo,h1,h2⟩:=gv.mp q
   obtain⟨v,h3,h4⟩:=hσ k bo _ h1 h2
   obtain⟨i,rfl,h5⟩:=ze h2
   obtain⟨p,h6,_⟩:=e.hl i d h5
   rw[show σ[i]?=some (some v) from h4] at h6;cases h6
   exact⟨i,p,h1,h5,h4,h3⟩
 refine⟨e.sub,by unfold cC;rw[List.length_map];exact hl,?_,?_,?_,?_,?_,?_,aE.refl F,fun b o h=>.inl h,fun b o h _=>h,fun b h=>h⟩
 ·intro k d q
  obtain⟨bo,h1,h2⟩:=gv.mp q
  obtain⟨v,h3,h4⟩:=hσ k bo _ h1 h2
  refine⟨v,h3,?_⟩
  rcases zf h2 with rfl | ⟨i,rfl,h5⟩
  ·exact h4
  ·obtain⟨u,h6,h7⟩:=e.fz i d h5
   rw[show σ[i]?=some (some v) from h4] at h6;cases h6
   exact h7
 ·intro k d q
  obtain⟨i,p,h1,h2,h3,h4⟩:=held q
  obtain⟨p',h5,h6,h7⟩:=e.hl i d h2
  rw[h3] at h5;cases h5
  exact⟨p,h4,h6,h7⟩
 ·intro k d p q
  obtain⟨bo,h1,h2⟩:=gv.mp q
  exact absurd h2 oZ
 ·intro k d p q a
  obtain⟨i,p',h1,h2,h3,h4⟩:=held (.inr q)
  rw[a] at h4;cases h4
  exact gk.mpr ⟨i,d,h1,h2,h3⟩
 ·intro k k' d d' p q1 q2 a1 a2
  obtain⟨i,p1,h1,h2,h3,h4⟩:=held q1
  obtain⟨i',p2,h1',h2',h3',h4'⟩:=held q2
  rw[a1] at h4;cases h4
  rw[a2] at h4';cases h4'
  have:=e.dis i i' d d' p h2 h2' h3 h3'
  subst this
  exact nd k k' i h1 h1'
 ·intro k p q
  obtain⟨i,d,h1,h2,h3⟩:=gk.mp q
  have ha:ko Γ (.v i)=some (.ln d):=by
   show ej Γ[i]?=_
   rcases h2 with h2 | h2 <;> rw[h2] <;> rfl
  obtain⟨v,h4,h5⟩:=hσ k _ _ h1 ha
  rw[show σ[i]?=some (some v) from h5] at h3;cases h3
  exact⟨h4,d,gv.mpr ⟨_,h1,ha⟩⟩
theorem jN {bs:List (Option Bo)}:∀ k p,(k,p)∈ownOf Γ σ bs→∃ j d,(bs.map aS)[k]?=some (some j)∧Hld Γ j d∧σ[j]?=some (some (V.ref p)):=fun k p h=>by
 obtain⟨i,d,h1,h2,h3⟩:=gk.mp h
 exact⟨i,d,by rw[List.getElem?_map,h1];rfl,h2,h3⟩
def cW (fr:List (Option Nat)):List (Option Bo):=fr.map fun o=>o.map Bo.v
def qd (fr:List (Option Nat)) (i3:TI3) (g3:TG3) (e3:TE3) (Γ:G) (Q:RV→G→Prop):Prop:=i3 Γ fun xs Γ1=>xs.length < sizeLine∧∃ Iv:Nat→List D→G→Prop,Iv 0 [] (cC Γ1 (cW fr))∧
 (∀ k d ys Γc,xs[k]?=some d→ys.length=k→Iv k ys Γc→g3 d Γc fun Γ2=>e3 Γ2 fun r Γ3=>Iv (k + 1) (ys++[r.d]) Γ3)∧∀ ys Γc,ys.length=xs.length→Iv xs.length ys Γc→Q (.fr (.lst ys)) (aT fr Γ1 Γc)
theorem rR {fr:List (Option Nat)} (h:(fr.filterMap id).Nodup):∀ (k k' i:Nat),(cW fr)[k]?=some (some (Bo.v i))→(cW fr)[k']?=some (some (Bo.v i))→k=k':=by
 unfold cW
 have go:∀ (l:List (Option Nat)),(l.filterMap id).Nodup→∀ (k k' i:Nat),l[k]?=some (some i)→l[k']?=some (some i)→k=k':=by
  intro l
  induction l with
  | nil=>intro _ k k' i h;simp at h
  | cons o l ih=>
   intro hn k k' i h h'
   cases o with
   | none=>
    rw[List.filterMap_cons_none rfl] at hn
    cases k with
    | zero=>simp at h
    | succ k=>
     cases k' with
     | zero=>simp at h'
     | succ k'=>rw[ih hn k k' i (by simpa using h) (by simpa using h')]
   | some j=>
    rw[show List.filterMap id (some j::l)=j::List.filterMap id l from rfl,List.nodup_cons] at hn
    have mem:∀ {k:Nat},l[k]?=some (some i)→i∈l.filterMap id:=fun q=>List.mem_filterMap.mpr ⟨some i,List.mem_of_getElem? q,rfl⟩
    cases k with
    | zero=>
     simp at h;subst h
     cases k' with
     | zero=>rfl
     | succ k'=>exact absurd (mem (by simpa using h')) hn.1
    | succ k=>
     cases k' with
     | zero=>
      simp at h';subst h'
      exact absurd (mem (by simpa using h)) hn.1
     | succ k'=>rw[ih hn.2 k k' i (by simpa using h) (by simpa using h')]
 intro k k' i h1 h2
 refine go fr h k k' i ?_ ?_
 ·rw[List.getElem?_map] at h1
  cases q:fr[k]? with
  | none=>rw[q] at h1;cases h1
  | some o=>rw[q] at h1;cases o with | none=>cases h1 | some j=>cases h1;rfl
 ·rw[List.getElem?_map] at h2
  cases q:fr[k']? with
  | none=>rw[q] at h2;cases h2
  | some o=>rw[q] at h2;cases o with | none=>cases h2 | some j=>cases h2;rfl
theorem ma {fr:List (Option Nat)}:(cW fr).map aS=fr:=by
 unfold cW
 rw[List.map_map]
 conv=>rhs;rw[← List.map_id fr]
 refine List.map_congr_left fun o _=>?_
 cases o <;> rfl
theorem En.blk (e:En K B F σ H Γ) {fr:List (Option Nat)} (nd:(fr.filterMap id).Nodup):En K ⟨F,H,ownOf Γ σ (cW fr)⟩ F (iL fr σ) H (cC Γ (cW fr)):=by
 refine e.inner (by unfold iL cW;simp) (fun k bo s h1 h2=>?_) (rR nd)
 unfold cW at h1
 rw[List.getElem?_map] at h1
 cases q:fr[k]? with
 | none=>rw[q] at h1;cases h1
 | some o=>
  rw[q] at h1
  cases o with
  | none=>cases h1
  | some j=>
   cases h1
   have:∃ d,Gat Γ j=some d:=by
    change ej Γ[j]?=_ at h2
    unfold ej at h2
    unfold Gat
    split at h2 <;> first | (cases h2;done) | (rename_i w;rw[w];exact⟨_,rfl⟩) | exact⟨_,rfl⟩
   obtain⟨d,hd⟩:=this
   obtain⟨v,hv,_⟩:=e.get hd
   refine⟨v,?_,hv⟩
   unfold iL
   rw[List.getElem?_map,q]
   simp [hv]
theorem pq {fr:List (Option Nat)} {wi:TI} {i3:TI3} {g:TG} {g3:TG3} {te:TE} {e3:TE3} (nd:(fr.filterMap id).Nodup) (hi:xo K wi i3) (hg:uA K g g3) (he:Ref K te e3):Ref K (lF fr wi g te) (qd fr i3 g3 e3):=by
 intro B F σ H Γ Q QQ e q k
 refine hi B F σ H Γ _ _ e q fun J H1 F1 Γ1 xs s1 e1 R ⟨hz,Iv,i0,it,ie⟩=>?_
 have eb:=e1.blk nd
 refine⟨fun i m ys σc H=>m=xs.length - i∧i≤xs.length∧∃ F' Γc ds,aE F1 F'∧En K ⟨F1,H1,ownOf Γ1 σ (cW fr)⟩ F' σc H Γc∧av K F' ds ys∧ds.length=i∧Iv i ds Γc,⟨_,rfl,Nat.zero_le _,F1,_,[],aE.refl _,eb,rfl,rfl,i0⟩,?_⟩
 rintro i m ys σc H2 ⟨rfl,hi',F2,Γ2,ds,s2,e2,r2,hl,iv⟩
 refine⟨by rw[r2.length,hl];omega,?_⟩
 by_cases lt:i < xs.length
 ·refine .inr ⟨R.go i H2 (s2.trans e2.sub) lt,fun x H3 y=>?_⟩
  have hd:xs[i]?=some xs[i]:=List.getElem?_eq_getElem lt
  obtain⟨F3,s3,e3',r3⟩:=R.turn s2 e2 hd y
  refine hg _ F3 σc H3 Γ2 x _ _ _ e3' r3 (it i _ ds Γ2 hd hl iv) fun σ2 Γ4 e4 q4=>?_
  refine⟨fun y H5=>∃ F5 Γ5 r,aE F3 F5∧En K ⟨F1,H1,ownOf Γ1 σ (cW fr)⟩ F5 σ2 H5 Γ5∧dC K ⟨F1,H1,ownOf Γ1 σ (cW fr)⟩ F5 σ2 H5 Γ5 y r∧Iv (i + 1) (ds++[r.d]) Γ5,fun y H5 ⟨F5,Γ5,r,s5,e5,rv,iv5⟩=>?_,he _ F3 σ2 H3 Γ4 _ _ e4 q4 fun v H' p=>p⟩
  obtain⟨F6,s6,e6,r6⟩:=e5.frozen rv
  refine⟨xs.length - (i + 1),by omega,rfl,lt,F6,Γ5,ds++[r.d],((s2.trans s3).trans s5).trans s6,e6,?_,by simp [hl],iv5⟩
  exact av.append (ys:=[r.d]) (r2.mono ((s3.trans s5).trans s6)) ⟨y,[],rfl,r6,rfl⟩
 ·have z:i=xs.length:=by omega
  subst z
  refine .inl ⟨R.stop _ H2 (s2.trans e2.sub) rfl,fun l hl'=>k _ _ ?_⟩
  have eo:En K B F2 σ H2 (aT fr Γ1 Γ2):=e1.back (ls:=fr) e2 (by have:=jN (Γ:=Γ1) (σ:=σ) (bs:=cW fr);rw[ma] at this;exact this)
  exact Po.mono (s1.trans s2) (jJ eo hl' r2 (ie ds Γ2 hl iv))
theorem fL {elt iter tg:Expr} {sc:Scope} {Nc:List Str} {fr:List (Option Nat)} {wi:TI} {i3:TI3} {g:TG} {g3:TG3} {te:TE} {e3:TE3} (hc:X.calm=true) (hi:P3I K X tg iter wi i3) (Bk:Blk X.N X.env.scope sc Nc fr)
  (hg:∀ s₀ H₀ C ex pn,P3G K (bJ X sc Nc s₀ H₀ C ex pn) tg g g3) (he:∀ s₀ H₀ C ex pn,P3 K (bJ X sc Nc s₀ H₀ C ex pn) elt te e3) (nd:(fr.filterMap id).Nodup:=by decide) (hs:∀ x,foldedSetIterable iter X.env x=pure x:=by intro _;rfl) :
  P3 K X (.ListComp elt [⟨tg,iter,[],0⟩] sc pos) (lF fr wi g te) (qd fr i3 g3 e3):=
 ⟨sG hc hi.pe Bk (fun a b c d e=>(hg a b c d e).pe) (fun a b c d e=>(he a b c d e).pe) hs,pq nd hi.rf (hg X.s₀ X.H₀ 0 [] []).rf (he X.s₀ X.H₀ 0 [] []).rf⟩
theorem gC {i:Nat} {x:Str} {px spos:Pos} {elt iter tg:Expr} {sc:Scope} {Nc:List Str} {fr:List (Option Nat)} {wi:TI} {i3:TI3} {g:TG} {g3:TG3} {te:TE} {e3:TE3} (hN:X.N.Nodup) (hi':X.N[i]?=some x) (hx:X.env.scope.names.lookup x=some .local)
  (hc:X.calm=true) (hi:P3I K X tg iter wi i3) (Bk:Blk X.N X.env.scope sc Nc fr)
  (hg:∀ s₀ H₀ C ex pn,P3G K (bJ X sc Nc s₀ H₀ C ex pn) tg g g3) (he:∀ s₀ H₀ C ex pn,P3 K (bJ X sc Nc s₀ H₀ C ex pn) elt te e3) (nd:(fr.filterMap id).Nodup:=by decide)
  (hsw:swapsWith (.ListComp elt [⟨tg,iter,[],0⟩] sc pos) (some (.Name x px)) spos.line X.env=pure true:=by rfl) (hs:∀ x,foldedSetIterable iter X.env x=pure x:=by intro _;rfl) :
  P3S K X (.Assign [.Name x px] (.ListComp elt [⟨tg,iter,[],0⟩] sc pos) spos) (j6 (lF fr wi g te) (g0 i)) (xG i (qd fr i3 g3 e3)):=
 ⟨qL hN hi' hx hc hi.pe Bk (fun a b c d e=>(hg a b c d e).pe) (fun a b c d e=>(he a b c d e).pe) hsw hs,sx (pq nd hi.rf (hg X.s₀ X.H₀ 0 [] []).rf (he X.s₀ X.H₀ 0 [] []).rf)⟩
abbrev S3:=G→(RV→G→Prop)→Prop
def sp3 (K:PySem.W.Frag) (n:Nat) (S:S3):Sp:=fun vs H Q _=>vs.length=n∧∃ F own Γa Q3,En K ⟨F,H,own⟩ F (vs.map some) H Γa∧(∀ (k:Nat) (d:D),Γa[k]?≠some (some (Sl.ow d)))∧S Γa Q3∧∀ r Γ',Q3 r Γ'→∀ v H' F',En K ⟨F,H,own⟩ F' (vs.map some) H' Γ'→dC K ⟨F,H,own⟩ F' (vs.map some) H' Γ' v r→Q v H'
def cn:List Bo→List Nat
 | []=>[]
 | .d _::bs=>cn bs
 | .v i::bs=>i::cn bs
def rQ (n:Nat) (S:S3) (t3:fI) (Γ:G) (Q:RV→G→Prop):Prop:=t3 Γ fun bs Γ1=>bs.length=n∧(cn bs).Nodup∧S (cC Γ1 (bs.map some)) fun r Γa=>Q r (aT ((bs.map some).map aS) Γ1 Γa)
theorem v9:∀ {bs:List Bo},(cn bs).Nodup→∀ (k k' i:Nat),(bs.map some)[k]?=some (some (Bo.v i))→(bs.map some)[k']?=some (some (Bo.v i))→k=k':=by
 intro bs h k k' i h1 h2
 have key:((((bs.map some).map aS)).filterMap id)=cn bs:=by
  clear h h1 h2
  induction bs with
  | nil=>rfl
  | cons b bs ih=>cases b with
   | d x=>simpa [aS,cn] using ih
   | v j=>simpa [aS,cn] using ih
 rw[← key] at h
 refine rR h k k' i ?_ ?_
 ·unfold cW
  rw[List.getElem?_map,List.getElem?_map,h1];rfl
 ·unfold cW
  rw[List.getElem?_map,List.getElem?_map,h2];rfl
theorem cu.get {F:Hp}:∀ {bs:List Bo} {vs:List V},cu K F σ bs vs→∀ {k:Nat} {bo:Bo},bs[k]?=some bo→∃ v,vs[k]?=some v∧kF K F σ bo v
 | [],_,_,k,bo,e=>by simp at e
 | x::xs,_,⟨v,ws,h1,h2,h3⟩,0,d,e=>by subst h1;simp at e;subst e;exact⟨v,rfl,h2⟩
 | x::xs,_,⟨v,ws,h1,h2,h3⟩,i + 1,d,e=>by
  subst h1
  obtain⟨u,a,b⟩:=cu.get h3 (k:=i) (bo:=d) (by simpa using e)
  exact⟨u,by simpa using a,b⟩
theorem cu.length {F:Hp}:∀ {bs:List Bo} {vs:List V},cu K F σ bs vs→vs.length=bs.length
 | [],_,h=>by cases h;rfl
 | _::_,_,⟨v,ws,h1,h2,h3⟩=>by subst h1;simp [cu.length h3]
theorem En.args (e:En K B F σ H Γ) {bs:List Bo} {vs:List V} (r:cu K F σ bs vs) (nd:(cn bs).Nodup):En K ⟨F,H,ownOf Γ σ (bs.map some)⟩ F (vs.map some) H (cC Γ (bs.map some)):=by
 refine e.inner (by simp [r.length]) (fun k bo s h1 h2=>?_) (v9 nd)
 rw[List.getElem?_map] at h1
 cases q:bs[k]? with
 | none=>rw[q] at h1;cases h1
 | some b=>
  rw[q] at h1;cases h1
  obtain⟨v,a,b⟩:=r.get q
  exact⟨v,by rw[List.getElem?_map,a];rfl,b⟩
theorem En.called (e:En K B F σ H Γ) {F' H':Hp} {bs:List (Option Bo)} {σc:L2.St} {Γa:G} {v:V} {r:RV} (e2:En K ⟨F,H,ownOf Γ σ bs⟩ F' σc H' Γa) (rv:dC K ⟨F,H,ownOf Γ σ bs⟩ F' σc H' Γa v r) :
  aE F F'∧En K B F' σ H' (aT (bs.map aS) Γ Γa)∧dC K B F' σ H' (aT (bs.map aS) Γ Γa) v r:=by
 have eo:=e.back e2 jN
 refine⟨e2.keep,eo,?_⟩
 have nw:∀ {p:Addr},H p=none→∀ (i:Nat) (x:D),Hld (aT (bs.map aS) Γ Γa) i x→σ[i]?≠some (some (V.ref p)):=fun {p} h4' i x hx hp=>by
  obtain⟨d0,w⟩:∃ d0,Hld Γ i d0:=by
   rcases hx with hx | hx <;> rw[bM] at hx
   ·cases w:Γ[i]? with
    | none=>rw[w] at hx;cases hx
    | some s=>rw[w] at hx;cases s with
     | none=>cases hx
     | some s=>cases s with
      | fz d=>cases hx
      | ow d=>exact⟨d,.inl w⟩
      | ln d=>cases hx
   ·cases w:Γ[i]? with
    | none=>rw[w] at hx;cases hx
    | some s=>rw[w] at hx;cases s with
     | none=>cases hx
     | some s=>cases s with
      | fz d=>cases hx
      | ow d=>cases hx
      | ln d=>exact⟨d,.inr w⟩
  obtain⟨p',a,b,c⟩:=e.hl i d0 w
  rw[hp] at a;cases a
  obtain⟨o,ho⟩:=c.some
  rw[h4'] at ho;cases ho
 cases r with
 | fz d=>exact rv
 | fr d=>
  obtain⟨p,h1,h2,h3,h4,h5⟩:=rv
  exact⟨p,h1,h2,h3,e.dom p h4,nw h4⟩
 | two xs ys=>
  obtain⟨t,p,q,vs,ws,h1,h2,h3,h4,h5,h6,h7,h8⟩:=rv
  exact⟨t,p,q,vs,ws,h1,h2,h3,h4,h5,h6,h7,fun z hz=>⟨(h8 z hz).1,e.dom z (h8 z hz).2.1,nw (h8 z hz).2.1⟩⟩
 | rws xss=>
  obtain⟨p,qs,h1,h2,h3,h4,h8⟩:=rv
  exact⟨p,qs,h1,h2,h3,h4,fun z hz=>⟨(h8 z hz).1,e.dom z (h8 z hz).2.1,nw (h8 z hz).2.1⟩⟩
theorem vd {t:TA} {t3:fI} {S:S3} {n:Nat} {E:XK} (h:qt K t t3):Ref K (lH (sp3 K n S) [] E t) (rQ n S t3):=by
 intro B F σ H Γ Q QQ e q k
 refine h B F σ H Γ _ _ e q fun vs H1 ⟨F1,Γ1,bs,s1,e1,r1,hn,nd,q1⟩=>?_
 show sp3 K n S (vs++[]) H1 QQ E
 rw[List.append_nil]
 refine⟨by rw[r1.length];exact hn,F1,_,_,_,e1.args r1 nd,jZ,q1,fun r Γa q v H' F' e2 rv=>?_⟩
 obtain⟨a,b,c⟩:=e1.called e2 rv
 exact k v H' ⟨F',_,r,s1.trans a,b,c,q⟩
def g8 (Γa Γ':G):G:=Γa.mapIdx fun k s=>match s with
 | some (.ln d)=>(match Γ'[k]? with
  | some (some (.ln d'))=>some (.ln d')
  | _=>some (.ln d))
 | s=>s
theorem yh {Γa Γ':G} {k:Nat} {d:D} (h:Γa[k]?=some (some (Sl.ln d))) {d':D} (h':Γ'[k]?=some (some (Sl.ln d'))):(g8 Γa Γ')[k]?=some (some (Sl.ln d')):=by
 unfold g8
 rw[List.getElem?_mapIdx,h]
 simp [h']
theorem jO {Γa Γ':G} {k:Nat} {s:Sl} (h:(g8 Γa Γ')[k]?=some (some s)):(∃ d d',Γa[k]?=some (some (Sl.ln d))∧s=.ln d')∨(Γa[k]?=some (some s)∧∀ d,s≠.ln d):=by
 unfold g8 at h
 rw[List.getElem?_mapIdx] at h
 cases w:Γa[k]? with
 | none=>rw[w] at h;cases h
 | some o=>
  rw[w] at h
  cases o with
  | none=>cases h
  | some s'=>
   cases s' with
   | fz d=>cases h;exact .inr ⟨rfl,fun d z=>by cases z⟩
   | ow d=>cases h;exact .inr ⟨rfl,fun d z=>by cases z⟩
   | ln d=>
    left
    simp only[Option.map_some,Option.some.injEq] at h
    split at h
    ·cases h;exact⟨d,_,rfl,rfl⟩
    ·cases h;exact⟨d,_,rfl,rfl⟩
theorem En.out {F0 H0 F' H':Hp} {own:List (Nat×Addr)} {σa σ':L2.St} {Γa Γ':G} (e0:En K ⟨F0,H0,own⟩ F0 σa H0 Γa) (hno:∀ (k:Nat) (d:D),Γa[k]?≠some (some (Sl.ow d))) (e1:En K ⟨F0,H0,own⟩ F' σ' H' Γ') {v:V} {r:RV} (rv:dC K ⟨F0,H0,own⟩ F' σ' H' Γ' v r) :
  En K ⟨F0,H0,own⟩ F' σa H' (g8 Γa Γ')∧dC K ⟨F0,H0,own⟩ F' σa H' (g8 Γa Γ') v r:=by
 have lnk:∀ {k:Nat} {d:D},Γa[k]?=some (some (Sl.ln d))→∃ p d',(k,p)∈own∧σa[k]?=some (some (V.ref p))∧σ'[k]?=some (some (V.ref p))∧Γ'[k]?=some (some (Sl.ln d'))∧(g8 Γa Γ')[k]?=some (some (Sl.ln d')):=fun {k d} h=>by
  obtain⟨p,a,b,c⟩:=e0.hl k d (.inr h)
  have m:=e0.ln k d p h a
  obtain⟨a',d',b'⟩:=e1.par k p m
  exact⟨p,d',m,a,a',b',yh h b'⟩
 have hld:∀ {k:Nat} {d:D},Hld (g8 Γa Γ') k d→∃ p d0,Γa[k]?=some (some (Sl.ln d0))∧(k,p)∈own∧σa[k]?=some (some (V.ref p))∧σ'[k]?=some (some (V.ref p))∧Γ'[k]?=some (some (Sl.ln d)):=fun {k d} h=>by
  rcases h with h | h
  ·rcases jO h with ⟨d1,d2,_,z⟩ | ⟨z,_⟩
   ·cases z
   ·exact absurd z (hno k d)
  ·rcases jO h with ⟨d1,d2,z,_⟩ | ⟨_,z⟩
   ·obtain⟨p,d',m,a,a',b',c'⟩:=lnk z
    rw[h] at c';cases c'
    exact⟨p,d1,z,m,a,a',b'⟩
   ·exact absurd rfl (z d)
 refine⟨⟨e1.sub,?_,?_,?_,?_,?_,?_,?_,e1.keep,e1.new,e1.rest,e1.dom⟩,?_⟩
 ·unfold g8;rw[List.length_mapIdx];exact e0.len
 ·intro k d q
  rcases jO q with ⟨d1,d2,_,z⟩ | ⟨z,_⟩
  ·cases z
  ·obtain⟨u,a,b⟩:=e0.fz k d z
   exact⟨u,a,b.mono e1.keep⟩
 ·intro k d q
  obtain⟨p,d0,_,m,a,a',b⟩:=hld q
  obtain⟨p',x,y,z⟩:=e1.hl k d (.inr b)
  rw[a'] at x;cases x
  exact⟨p,a,y,z⟩
 ·intro k d p q
  rcases jO q with ⟨d1,d2,_,z⟩ | ⟨z,_⟩
  ·cases z
  ·exact absurd z (hno k d)
 ·intro k d p q a
  obtain⟨p',d0,_,m,a',_⟩:=hld (.inr q)
  rw[a] at a';cases a'
  exact m
 ·intro k k' d d' p q1 q2 a1 a2
  obtain⟨p1,d1,z1,_⟩:=hld q1
  obtain⟨p2,d2,z2,_⟩:=hld q2
  exact e0.dis k k' d1 d2 p (.inr z1) (.inr z2) a1 a2
 ·intro k p q
  obtain⟨a,d,b⟩:=e0.par k p q
  obtain⟨p',d',m,a',_,_,c⟩:=lnk b
  exact⟨a,d',c⟩
 ·cases r with
  | fz d=>exact rv
  | fr d=>
   obtain⟨p,h1,h2,h3,h4,h5⟩:=rv
   refine⟨p,h1,h2,h3,h4,fun k x hx a=>?_⟩
   obtain⟨p',d0,_,m,a',b',c'⟩:=hld hx
   rw[a] at a';cases a'
   exact h5 k x (.inr c') b'
  | two xs ys=>
   obtain⟨t,p,q,vs,ws,h1,h2,h3,h4,h5,h6,h7,h8⟩:=rv
   refine⟨t,p,q,vs,ws,h1,h2,h3,h4,h5,h6,h7,fun z hz=>⟨(h8 z hz).1,(h8 z hz).2.1,fun k x hx a=>?_⟩⟩
   obtain⟨p',d0,_,m,a',b',c'⟩:=hld hx
   rw[a] at a';cases a'
   exact(h8 z hz).2.2 k x (.inr c') b'
  | rws xss=>
   obtain⟨p,qs,h1,h2,h3,h4,h8⟩:=rv
   refine⟨p,qs,h1,h2,h3,h4,fun z hz=>⟨(h8 z hz).1,(h8 z hz).2.1,fun k x hx a=>?_⟩⟩
   obtain⟨p',d0,_,m,a',b',c'⟩:=hld hx
   rw[a] at a';cases a'
   exact(h8 z hz).2.2 k x (.inr c') b'
end
end L3
namespace L3
open PySem L2 PySem.Spec PyProof.Rows
def cI (N:List Str) (Γa:G):G:=Γa++List.replicate (N.length - Γa.length) none
section
variable {P:Program} {w:World} {K:PySem.W.Frag} {mg:Str→Option Value} {base:Heap}
theorem En.start {B:Bs} {F H:Hp} {vs:List V} {Γa:G} {N:List Str} (e:En K B F (vs.map some) H Γa) (hl:Γa.length≤N.length):En K B F (L2.start N vs) H (cI N Γa):=by
 have len:=e.len
 rw[List.length_map] at len
 have hs:∀ {i:Nat},i < Γa.length→(L2.start N vs)[i]?=(vs.map some)[i]?:=fun {i} h=>by
  unfold L2.start
  rw[List.getElem?_append_left (by rw[List.length_map];omega)]
 have hg:∀ {i:Nat} {s:Sl},(cI N Γa)[i]?=some (some s)→i < Γa.length∧Γa[i]?=some (some s):=fun {i s} h=>by
  unfold cI at h
  by_cases lt:i < Γa.length
  ·rw[List.getElem?_append_left lt] at h;exact⟨lt,h⟩
  ·rw[List.getElem?_append_right (by omega)] at h
   have:=List.mem_of_getElem? h
   rw[List.mem_replicate] at this
   cases this.2
 have hh:∀ {i:Nat} {d:D},Hld (cI N Γa) i d→i < Γa.length∧Hld Γa i d:=fun h=>by
  rcases h with h | h
  ·exact⟨(hg h).1,.inl (hg h).2⟩
  ·exact⟨(hg h).1,.inr (hg h).2⟩
 refine⟨e.sub,?_,?_,?_,?_,?_,?_,?_,e.keep,e.new,e.rest,e.dom⟩
 ·unfold L2.start cI
  simp only[List.length_append,List.length_map,List.length_replicate]
  omega
 ·intro i d q
  obtain⟨lt,q⟩:=hg q
  rw[hs lt];exact e.fz i d q
 ·intro i d q
  obtain⟨lt,q⟩:=hh q
  rw[hs lt];exact e.hl i d q
 ·intro i d p q a
  obtain⟨lt,q⟩:=hg q
  rw[hs lt] at a;exact e.ow i d p q a
 ·intro i d p q a
  obtain⟨lt,q⟩:=hg q
  rw[hs lt] at a;exact e.ln i d p q a
 ·intro i j d d' p q1 q2 a1 a2
  obtain⟨l1,q1⟩:=hh q1
  obtain⟨l2,q2⟩:=hh q2
  rw[hs l1] at a1
  rw[hs l2] at a2
  exact e.dis i j d d' p q1 q2 a1 a2
 ·intro i p q
  obtain⟨a,d,b⟩:=e.par i p q
  have lt:i < Γa.length:=(List.getElem?_eq_some_iff.mp b).1
  refine⟨by rw[hs lt];exact a,d,?_⟩
  unfold cI
  rw[List.getElem?_append_left lt];exact b
theorem ok3 {x qual:Str} {st:Stmt} {f:Addr} {fd:FuncData} {N ps:List Str} {k:Nat} {S:S3} (F:Fun K x qual st f fd) (Sc:aL N ps (ae st)) (hN:ps.length≤N.length:=by decide)
  (hbody:∀ (cdv:Value) (A:Around) (outer:List Env) (s:Shared) (H:Hp) (E:XK),cJ k (A.deeper (envOfC qual (ae st) s.heap.objs.size f cdv))→
   ∃ t t3,jB K (qa CX0 P w K mg base N qual (ae st) f cdv A outer s H E).nox (ao st) t t3∧∀ Γa Q,S Γa Q→Γa.length=ps.length→t3 { nx:=fun Γ'=>Q (.fz .non) (g8 Γa Γ'),rt:=fun r Γ'=>Q r (g8 Γa Γ') } (cI N Γa)) :
  bK P w K mg base CX0 (k + 1) f fd ps (sp3 K ps.length S):=by
 refine F.ok Sc (fun vs H Q E h=>h.1) fun cdv A outer s H vs Q E hr h=>?_
 obtain⟨hl,F0,own,Γa,Q3,e,hno,hS,hQ⟩:=h
 obtain⟨t,t3,ht,rd⟩:=hbody cdv A outer s H E hr
 have hla:Γa.length=ps.length:=by rw[← e.len,List.length_map];exact hl
 refine⟨t,ht.pe,ht.rf ⟨F0,H,own⟩ F0 _ H _ _ { nx:=fun Γ'=>Q3 (.fz .non) (g8 Γa Γ'),rt:=fun r Γ'=>Q3 r (g8 Γa Γ') } (e.start (N:=N) (by rw[hla];exact hN)) ⟨?_,?_,fun _ _ _ _ _ _ z=>False.elim z,fun _ _ _ _ _ _ z=>False.elim z⟩ (rd Γa Q3 hS hla)⟩
 ·intro F' σ' H' Γ' s' e' q
  obtain⟨a,b⟩:=e.out hno e' (v:=.non) (r:=.fz .non) rfl
  exact hQ _ _ q _ _ _ a b
 ·intro F' σ' H' Γ' v r s' e' rv q
  obtain⟨a,b⟩:=e.out hno e' rv
  exact hQ _ _ q _ _ _ a b
end
section
variable {K:PySem.W.Frag} {X:Cx} {k:Nat} {f C:Addr} {fd:FuncData} {ps:List Str} {x m:Str} {p pos apos:Pos} {e o:Expr} {es:List Expr} {ta:TE} {t:TA} {t3:fI} {o3:TB3} {n:Nat} {S:S3}
theorem ay (hK:X.K=K) (F:bK X.prog X.w X.K X.mg X.base CX0 k f fd ps (sp3 K n S)) (hr:cJ k X.A) (hg:Gl X x) (hm:X.mg x=some (.ref f)) (hk:PySem.W.keepIn X.K (.ref f)=true) (hb:Binds X.K fd ps [])
  (ha:qu K X (e::es) t t3) (hdb:(x == ("__debug__":Str))=false:=by decide) (he:starEach (e::es) X.env=(false,eval e X.env)::starEach es X.env:=by rfl) (hpl:(backTo pos (starEach es X.env)).any (·.1)=false:=by rfl) :
  P3 K X (.Call (.Name x p) (e::es) [] pos) (lH (sp3 K n S) [] E0 t) (rQ n S t3):=⟨oh F hr hg hm hk hb .nil m_ ha.pe hdb he hpl,vd ha.rf⟩
def sO (C:Addr) (m:Str) (n:Nat) (S:S3) (o3:TB3) (t3:fI) (Γ:G) (Q:RV→G→Prop):Prop:=o3 Γ fun x Γ1=>(∃ ns xs,x.at Γ1=some (.ins C ns xs)∧m∉ns)∧t3 Γ1 fun bs Γ2=>bs.length + 1=n∧(cn (x::bs)).Nodup∧S (cC Γ2 ((x::bs).map some)) fun r Γa=>Q r (aT (((x::bs).map some).map aS) Γ2 Γa)
theorem ud {ns:List Str}:∀ {gs:List (Str×V)} {m:Str},gs.map (·.1)=ns→m∉ns→gs.lookup m=none:=by
 induction ns with
 | nil=>intro gs m h _;cases gs with | nil=>rfl | cons=>cases h
 | cons a ns ih=>
  intro gs m h hn
  cases gs with
  | nil=>cases h
  | cons g gs=>
   simp only[List.map_cons,List.cons.injEq] at h
   obtain⟨rfl,h⟩:=h
   rw[List.mem_cons,not_or] at hn
   obtain⟨g1,g2⟩:=g
   rw[List.lookup_cons,show (m == g1)=false from beq_eq_false_iff_ne.mpr hn.1]
   exact ih h hn.2
theorem ph (ho:mV K ta o3) (ha:qt K t t3):Ref K (m3 C m (sp3 K n S) [] E0 ta t) (sO C m n S o3 t3):=by
 intro B F σ H Γ Q QQ e q kk
 refine ho B F σ H Γ _ _ e q fun v H0 ⟨F0,Γ0,bo,s0,e0,r0,⟨ns,xs,hx,hm⟩,q0⟩=>?_
 obtain⟨p,dx,gs,rfl,h1,h2,h3⟩:=e0.bo r0 hx
 refine⟨p,dx,gs,rfl,h1,ud h2 hm,ha B F0 σ H0 Γ0 _ _ e0 q0 fun vs H1 ⟨F1,Γ1,bs,s1,e1,r1,hn,nd,q1⟩=>?_⟩
 show sp3 K n S (V.ref p::(vs++[])) H1 QQ E0
 rw[List.append_nil]
 have rr:cu K F1 σ (bo::bs) (V.ref p::vs):=⟨_,_,rfl,r0.mono s1,r1⟩
 refine⟨by rw[rr.length];exact hn,F1,_,_,_,e1.args rr nd,jZ,q1,fun r Γa q v H' F' e2 rv=>?_⟩
 obtain⟨a,b,c⟩:=e1.called e2 rv
 exact kk v H' ⟨F',_,r,(s0.trans s1).trans a,b,c,q⟩
theorem dJ {pl:Sem Bool} (hK:X.K=K) (he:P3B K X o ta o3) (c:Cls X.K C) (hm:Meth X.K C m f) (F:bK X.prog X.w X.K X.mg X.base CX0 k f fd ps (sp3 K n S)) (hr:cJ k X.A) (hb:Binds X.K fd ps []) (ha:qu K X (e::es) t t3)
  (hst:starEach (e::es) X.env=(false,eval e X.env)::starEach es X.env:=by rfl) (hpl:(backTo pos (starEach es X.env)).any (·.1)=false:=by rfl)
  (ht:eval (.Call (.Attribute o m apos) (e::es) [] pos) X.env=(do
   let ov ← eval o X.env
   standAt apos.atName
   let (f,first) ← holding [ov] (getMethod ov m pl)
   callWith pos f first (backTo pos (starEach (e::es) X.env)) (backToKw pos (keywordEach [] X.env))):=by rfl) :
  P3 K X (.Call (.Attribute o m apos) (e::es) [] pos) (m3 C m (sp3 K n S) [] E0 ta t) (sO C m n S o3 t3):=⟨x8 he.pe c hm F hr hb .nil m_ ha.pe hst hpl ht,ph he.rf ha.rf⟩
theorem aQ {pl:Sem Bool} (hK:X.K=K) (he:P3B K X o ta o3) (c:Cls X.K C) (hm:Meth X.K C m f) (F:bK X.prog X.w X.K X.mg X.base CX0 k f fd ps (sp3 K n S)) (hr:cJ k X.A) (hb:Binds X.K fd ps [])
  (ht:eval (.Call (.Attribute o m apos) [] [] pos) X.env=(do
   let ov ← eval o X.env
   standAt apos.atName
   let (f,first) ← holding [ov] (getMethod ov m pl)
   callWith pos f first (backTo pos (starEach [] X.env)) (backToKw pos (keywordEach [] X.env))):=by rfl) :
  P3 K X (.Call (.Attribute o m apos) [] [] pos) (m3 C m (sp3 K n S) [] E0 ta kL) (sO C m n S o3 Bv):=⟨vw he.pe c hm F hr hb .nil m_ ht,ph he.rf (ag (X:=X)).rf⟩
end
end L3
namespace L3
open PySem L2 PySem.Spec
section
variable {K:PySem.W.Frag} {X:Cx} {B:Bs} {F H:Hp} {σ:L2.St} {Γ:G} {pos p:Pos} {x:Str}
theorem ig {n:String} (hg:Gl X x) (hm:X.mg x=none) (hv:bootBuiltins x=some (.type n)) (hn:x≠"__name__":=by decide) (hd:(x == ("__debug__":Str))=false:=by decide):P3 K X (.Name x pos) (tC (.ty n)) (t3C (.ty n)):=
 ⟨ya (v:=.ty n) hg hm hv rfl hn hd,m7 fun _=>rfl⟩
theorem lN (i:Nat) {y:Str} {px p2:Pos} {k e:Expr} {tk te:TE} {k3:TB3} {e3:TE3} (hx:P3B K X (.Name y px) (cY i) (bor i)) (hk:P3B K X k tk k3) (he:P3 K X e te e3)
  (ha:∀ v,assign (.Subscript (.Name y px) k p2) X.env v=(do
   let ov ← holding [v] (eval (.Name y px) X.env)
   let iv ← holding [v,ov] (eval k X.env)
   standAt p2
   holding [v,ov,iv] (setItem ov iv v)
   release [v,ov,iv] []):=by intro _;rfl)
  (hs:swapsWithSole [.Subscript (.Name y px) k p2] e pos.line X.env=pure false:=by rfl) (hw:swappedStores [.Subscript (.Name y px) k p2] e X.env=pure none:=by rfl)
  (h1:(assignEach [.Subscript (.Name y px) k p2] X.env).map (·.2)=[assign (.Subscript (.Name y px) k p2) X.env]:=by rfl) :
  P3S K X (.Assign [.Subscript (.Name y px) k p2] e pos) (j6 te (wA (cY i) tk pw)) (sr i k3 e3):=xI i hx hk he (qN he.pe (vt hx.pe hk.pe set_list ha) hs hw h1)
def lz3 (t3:fI) (Γ:G) (Q:RV→G→Prop):Prop:=t3 Γ fun bs Γ1=>∃ xs ys,ats Γ1 bs=some [.lst xs,.lst ys]∧min xs.length ys.length < sizeLine∧Q (.fr (.lst (tM xs ys))) Γ1
theorem rT {ls:List (Option Nat)} {cs:G} (h:ls.all (·.isNone)=true):aT ls Γ cs=Γ:=by
 have hn:∀ j,newD ls cs j=none:=by
  intro j
  cases q:newD ls cs j with
  | none=>rfl
  | some d=>
   obtain⟨k,a,_⟩:=fc q
   have:=List.all_eq_true.mp h _ (List.mem_of_getElem? a)
   cases this
 refine List.ext_getElem? fun i=>?_
 rw[bM,hn]
 cases q:Γ[i]? with
 | none=>rfl
 | some s=>cases s with
  | none=>rfl
  | some s=>cases s <;> rfl
end
end L3
namespace L3
open PySem L2 PySem.Spec
theorem Et {α:Type} {a:α} {l:List α}:atI (a::l) 0=some a:=by
 unfold L2.atI ixN;simp
theorem Es {α:Type} {a b:α} {l:List α}:atI (a::b::l) 1=some b:=by
 have:ixN (a::b::l).length 1=some 1:=by
  unfold ixN;rw[if_pos (by decide),if_pos (by simp;omega)];rfl
 unfold L2.atI;rw[this];rfl
theorem Er {α:Type} {a b c:α} {l:List α}:atI (a::b::c::l) 2=some c:=by
 have:ixN (a::b::c::l).length 2=some 2:=by
  unfold ixN;rw[if_pos (by decide),if_pos (by simp;omega)];rfl
 unfold L2.atI;rw[this];rfl
theorem Ep {α:Type} {a b c d:α} {l:List α}:atI (a::b::c::d::l) 3=some d:=by
 have:ixN (a::b::c::d::l).length 3=some 3:=by
  unfold ixN;rw[if_pos (by decide),if_pos (by simp;omega)];rfl
 unfold L2.atI;rw[this];rfl
theorem BO:ixN 3 0=some 0:=rfl
theorem BN:ixN 3 1=some 1:=rfl
theorem BM:ixN 3 2=some 2:=rfl
theorem cS {α:Type} {xs:List α} {k:Int} {d:α} (h:0≤k) (e:xs[k.toNat]?=some d):atI xs k=some d:=by
 obtain⟨j,rfl⟩:∃ j:Nat,k=(j:Int):=⟨k.toNat,by omega⟩
 exact zb (by simpa using e)
theorem ER {ns:List Int} {k:Int} (h0:0≤k) (h1:k < (ns.length:Int)):atI (ns.map D.int) k=some (.int (ns.getD k.toNat 0)):=by
 refine cS h0 ?_
 have:k.toNat < ns.length:=by omega
 rw[List.getElem?_map,List.getElem?_eq_getElem this]
 simp [List.getD,this]
theorem za {ns:List Int} {k:Int} (h0:0≤k) (h1:k < (ns.length:Int)):atI ns k=some (ns.getD k.toNat 0):=by
 refine cS h0 ?_
 have:k.toNat < ns.length:=by omega
 rw[List.getElem?_eq_getElem this]
 simp [List.getD,this]
theorem zc {α:Type} {xs:List α} {k:Int} (h0:0≤k) (h1:k < (xs.length:Int)):∃ d,atI xs k=some d∧d∈xs:=by
 have:k.toNat < xs.length:=by omega
 exact⟨xs[k.toNat],cS h0 (List.getElem?_eq_getElem this),List.getElem_mem this⟩
section
variable {K:PySem.W.Frag} {P:Program} {w:World} {mg:Str→Option Value} {base:Heap}
def zK (n:Nat):S3:=fun Γ Q=>∃ ns:List Int,Γ=[some (.fz (.scr ns))]∧ns.length≤n∧∀ Γ',Q (.fz (.bl true)) Γ'
theorem BE {k n:Nat} {f:Addr} {fd:FuncData} {ps:List Str} (F:bK P w K mg base CX0 k f fd ps (sp3 K 1 (zK n))) :
  bK P w K mg base CX0 k f fd ps (fun vs H Q _=>∃ (p:Addr) (ns:List Int),vs=[.ref p]∧SqL K H p (ns.map V.int)∧ns.length≤n∧∀ H',Q (.bl true) H'):=by
 refine F.imp fun vs H Q E h=>?_
 obtain⟨p,ns,rfl,hs,hn,q⟩:=h
 have go1:∀ {i:Nat} {s:Sl},([some (Sl.fz (.scr ns))]:G)[i]?=some (some s)→i=0∧s=.fz (.scr ns):=fun {i s} h=>by
  cases i with
  | zero=>cases h;exact⟨rfl,rfl⟩
  | succ i=>cases h
 refine⟨rfl,H,[],[some (.fz (.scr ns))],fun r _=>r=.fz (.bl true),⟨aE.refl H,rfl,?_,?_,?_,?_,?_,?_,aE.refl H,fun b o h=>.inl h,fun b o h _=>h,fun b h=>h⟩,?_,⟨ns,rfl,hn,fun _=>rfl⟩,?_⟩
 ·intro i d h
  obtain⟨rfl,e⟩:=go1 h
  cases e
  exact⟨_,rfl,p,rfl,hs⟩
 ·intro i d h
  rcases h with h | h <;> cases (go1 h).2
 ·intro i d p h
  cases (go1 h).2
 ·intro i d p h
  cases (go1 h).2
 ·intro i j d e p h
  rcases h with h | h <;> cases (go1 h).2
 ·intro i p h;cases h
 ·intro k d h
  cases (go1 h).2
 ·intro r Γ' e v H' F' _ rv
  subst e
  have:v=.bl true:=rv
  subst this
  exact q H'
end
end L3
namespace L3
open PySem L2 PySem.Spec PySem.SeqAt
def b2 (b:Bool):Int:=if b then 1 else 0
mutual
def eqN:Nat→D→D→Option Bool
 | _,.non,.non=>some true
 | _,.bl a,.bl b=>some (a == b)
 | _,.int a,.int b=>some (a == b)
 | _,.str a,.str b=>some (a == b)
 | n + 1,.lst xs,.lst ys=>dz n xs ys
 | n + 1,.tup xs,.tup ys=>dz n xs ys
 | _,_,_=>none
def dz:Nat→List D→List D→Option Bool
 | _,[],[]=>some true
 | n,x::xs,y::ys=>match eqN n x y,dz n xs ys with
  | some a,some b=>some (a && b)
  | _,_=>none
 | _,_,_=>some false
end
section
variable {K:PySem.W.Frag} {F H:Hp}
theorem mn {n:Nat}:∀ {xs ys:List D} {k:Bool},dz n xs ys=some k→xs.length≠ys.length→k=false
 | [],[],_,_,h=>absurd rfl h
 | x::xs,[],_,e,_=>by unfold dz at e;cases e;rfl
 | [],y::ys,_,e,_=>by unfold dz at e;cases e;rfl
 | x::xs,y::ys,k,e,h=>by
  unfold dz at e
  split at e
  ·rename_i a b ha hb
   cases e
   rw[mn hb (by simpa using h),Bool.and_false]
  ·cases e
theorem iF {n:Nat}:∀ {xs ys:List D} {k:Bool},dz n xs ys=some k→∃ e:Nat→Bool,(∀ (j:Nat) x y,xs[j]?=some x→ys[j]?=some y→eqN n x y=some (e j))∧k=((List.range (min xs.length ys.length)).all e && xs.length == ys.length)
 | [],[],k,h=>by unfold dz at h;cases h;exact⟨fun _=>true,fun j x y h=>by simp at h,by simp⟩
 | x::xs,[],k,h=>by unfold dz at h;cases h;exact⟨fun _=>true,fun j x y _ h=>by simp at h,by simp⟩
 | [],y::ys,k,h=>by unfold dz at h;cases h;exact⟨fun _=>true,fun j x y h=>by simp at h,by simp⟩
 | x::xs,y::ys,k,h=>by
  unfold dz at h
  split at h
  ·rename_i a b ha hb
   cases h
   obtain⟨e,h1,h2⟩:=iF hb
   refine⟨fun j=>match j with | 0=>a | j + 1=>e j,fun j x' y' hx hy=>?_,?_⟩
   ·cases j with
    | zero=>simp at hx hy;subst hx hy;exact ha
    | succ j=>exact h1 j x' y' (by simpa using hx) (by simpa using hy)
   ·subst h2
    have hm:min (x::xs).length (y::ys).length=min xs.length ys.length + 1:=by simp [Nat.succ_min_succ]
    rw[hm,List.range_succ_eq_map,List.all_cons,List.all_map]
    simp only[List.length_cons,Function.comp_def,Bool.and_assoc]
    congr 1
    congr 1
    simp
  ·cases h
mutual
theorem oH:∀ {n:Nat} {d d':D} {v:V} {k:Bool},Rep K F d v→Rep K F d' v→eqN n d d'=some k→k=true
 | n,d,d',v,k,h,h',e=>by
  unfold eqN at e
  split at e <;> first
   | (cases e;rfl)
   | (cases e;cases h;cases h';simp;done)
   | (cases e;cases h;cases h';done)
   | (cases e;cases h;obtain⟨_,_,z,_⟩:=h';cases z;done)
   | (cases e;cases h';obtain⟨_,_,z,_⟩:=h;cases z;done)
   | (obtain⟨p,vs,rfl,a,b⟩:=h;obtain⟨p',vs',q,a',b'⟩:=h';cases q;rw[a] at a';cases a';exact nI b b' e)
   | (obtain⟨p,vs,rfl,a,b⟩:=h;obtain⟨p',vs',q,a',b'⟩:=h';cases q;rw[a] at a';cases a';done)
   | (cases e;done)
theorem nI:∀ {n:Nat} {xs ys:List D} {vs:List V} {k:Bool},av K F xs vs→av K F ys vs→dz n xs ys=some k→k=true
 | n,[],[],_,k,_,_,e=>by unfold dz at e;cases e;rfl
 | n,x::xs,[],_,k,⟨v,ws,h1,_⟩,h',e=>by cases h';cases h1
 | n,[],y::ys,_,k,h,⟨v,ws,h1,_⟩,e=>by cases h;cases h1
 | n,x::xs,y::ys,_,k,⟨v,ws,h1,h2,h3⟩,⟨v',ws',h1',h2',h3'⟩,e=>by
  subst h1
  cases h1'
  unfold dz at e
  split at e
  ·rename_i a b ha hb
   cases e
   rw[oH h2 h2' ha,nI h3 h3' hb];rfl
  ·cases e
end
end
end L3
namespace L3
open PySem L2 PySem.Spec PySem.SeqAt
section
variable {K:PySem.W.Frag} {X:Cx} {F H:Hp} {pins:List (Addr×Obj)} {σ:L2.St} {s:Shared}
theorem Vals.at' {xs:List V} {us:List Value} (r:Vals xs us) {j:Nat} (h:j < us.toArray.size):∃ v,xs[j]?=some v∧RelV v (us.toArray[j]):=by
 have h1:j < xs.length:=by rw[r.length];simpa using h
 obtain⟨u,hu,ru⟩:=r.get (List.getElem?_eq_getElem h1)
 refine⟨_,List.getElem?_eq_getElem h1,?_⟩
 have:us.toArray[j]=u:=by
  have h2:j < us.length:=by simpa using h
  have h3:us[j]?=some us[j]:=List.getElem?_eq_getElem h2
  rw[hu] at h3;cases h3
  simp
 rw[this];exact ru
theorem oA (I:Inv X pins σ H s) {p:Addr} {vs:List V} (h:H p=some (.lst vs)):∃ its:List Value,Vals vs its∧s.heap.IsList p its.toArray:=by
 obtain⟨its,n,r,e,_⟩:=I.lst h
 exact⟨its,r,_,e,rfl,n,rfl⟩
theorem oz (I:Inv X pins σ H s) {p:Addr} {vs:List V} (h:H p=some (.tup vs)):∃ its:List Value,Vals vs its∧s.heap.IsTuple p its.toArray:=by
 obtain⟨its,r,⟨o,e,hc,n,d⟩,_⟩:=I.tuple (a:=p) (xs:=vs) (.inl (.inl h))
 exact⟨its,r,o,e,hc,n,d⟩
theorem oK {n:Nat} {A:Around} {xs ys:List D} {vs ws:List V} {us zs:List Value} {e:Nat→Bool} (ih:∀ {d d':D} {v v':V} {u u':Value} {k:Bool},Rep K F d v→Rep K F d' v'→RelV v u→RelV v' u'→eqN n d d'=some k→EqAt A s u u' k)
  (r1:av K F xs vs) (r2:av K F ys ws) (q1:Vals vs us) (q2:Vals ws zs) (he:∀ (j:Nat) x y,xs[j]?=some x→ys[j]?=some y→eqN n x y=some (e j)) :
  ∀ j (h1:j < us.toArray.size) (h2:j < zs.toArray.size),EqAt A s us.toArray[j] zs.toArray[j] (e j):=fun j h1 h2=>by
 obtain⟨v,hv,rv⟩:=Vals.at' q1 h1
 obtain⟨w,hw,rw'⟩:=Vals.at' q2 h2
 obtain⟨d,hd,rd⟩:=r1.yL hv
 obtain⟨d',hd',rd'⟩:=r2.yL hw
 exact ih rd rd' rv rw' (he j d d' hd hd')
theorem pv {n:Nat} {A:Around} {p q:Addr} {xs ys:List D} {vs ws:List V} {k:Bool} (I:Inv X pins σ H s) (ih:∀ {d d':D} {v v':V} {u u':Value} {k:Bool},Rep K F d v→Rep K F d' v'→RelV v u→RelV v' u'→eqN n d d'=some k→EqAt A.in1 s u u' k)
  (h1:H p=some (.lst vs)) (h2:H q=some (.lst ws)) (r1:av K F xs vs) (r2:av K F ys ws) (he:dz n xs ys=some k) (hu:A.units < cLine):RcAt A s (.ref p) (.ref q) k:=by
 obtain⟨us,q1,l1⟩:=oA I h1
 obtain⟨zs,q2,l2⟩:=oA I h2
 have n1:us.toArray.size=xs.length:=by rw[← r1.length,q1.length];simp
 have n2:zs.toArray.size=ys.length:=by rw[← r2.length,q2.length];simp
 by_cases hl:xs.length=ys.length
 ·obtain⟨e,g,rfl⟩:=iF he
  have:=RcAt.lists l1 l2 (by rw[n1,n2,hl]) hu (oK ih r1 r2 q1 q2 g)
  rw[n1] at this
  rw[hl,Nat.min_self,beq_self_eq_true,Bool.and_true]
  rw[hl] at this
  exact this
 ·rw[mn he hl]
  refine RcAt.lists_lengths l1 l2 ?_ hu
  rw[n1,n2,bne_iff_ne];exact hl
theorem m8 {n:Nat} {A:Around} {p q:Addr} {xs ys:List D} {vs ws:List V} {k:Bool} (I:Inv X pins σ H s) (ih:∀ {d d':D} {v v':V} {u u':Value} {k:Bool},Rep K F d v→Rep K F d' v'→RelV v u→RelV v' u'→eqN n d d'=some k→EqAt A.in1 s u u' k)
  (h1:H p=some (.tup vs)) (h2:H q=some (.tup ws)) (r1:av K F xs vs) (r2:av K F ys ws) (he:dz n xs ys=some k) (hu:A.units < cLine):RcAt A s (.ref p) (.ref q) k:=by
 obtain⟨us,q1,l1⟩:=oz I h1
 obtain⟨zs,q2,l2⟩:=oz I h2
 have n1:us.toArray.size=xs.length:=by rw[← r1.length,q1.length];simp
 have n2:zs.toArray.size=ys.length:=by rw[← r2.length,q2.length];simp
 obtain⟨e,g,rfl⟩:=iF he
 have:=RcAt.tuples l1 l2 hu (oK ih r1 r2 q1 q2 g)
 rw[n1,n2] at this
 exact this
theorem oJ (I:Inv X pins σ H s) (sm:aE F H):∀ (n:Nat) {A:Around} {d d':D} {v v':V} {u u':Value} {k:Bool},A.units + n < cLine→Rep K F d v→Rep K F d' v'→RelV v u→RelV v' u'→eqN n d d'=some k→EqAt A s u u' k:=by
 intro n
 induction n with
 | zero=>
  intro A d d' v v' u u' k hu r r' q q' e
  unfold eqN at e
  split at e <;> (try (cases e;done)) <;> (try (rename_i hn;cases hn;done)) <;> cases r <;> cases r'
  ·cases e;cases q;cases q';exact EqAt.same _
  ·cases e;cases q;cases q';exact .bool_bool _ _
  ·cases e;obtain⟨t,rfl⟩:=q;obtain⟨t',rfl⟩:=q';exact .int_int _ _ _ _
  ·cases e;obtain⟨t,rfl⟩:=q;obtain⟨t',rfl⟩:=q';exact .str_str _ _ _ _
 | succ n ih=>
  intro A d d' v v' u u' k hu r r' q q' e
  have hu0:A.units < cLine:=by omega
  have hu1:A.in1.units + n < cLine:=by show A.units + 1 + n < cLine;omega
  have e0:=e
  unfold eqN at e
  split at e
  ·cases r;cases r';cases e;cases q;cases q';exact EqAt.same _
  ·cases r;cases r';cases e;cases q;cases q';exact .bool_bool _ _
  ·cases r;cases r';cases e;obtain⟨t,rfl⟩:=q;obtain⟨t',rfl⟩:=q';exact .int_int _ _ _ _
  ·cases r;cases r';cases e;obtain⟨t,rfl⟩:=q;obtain⟨t',rfl⟩:=q';exact .str_str _ _ _ _
  ·
   rename_i n' xs ys hn;cases hn
   have r0:=r;have r0':=r'
   obtain⟨p,vs,rfl,a1,b1⟩:=r
   obtain⟨p',vs',rfl,a2,b2⟩:=r'
   cases q;cases q'
   by_cases z:p=p'
   ·subst z
    rw[oH r0 r0' e0]
    exact EqAt.same _
   ·exact .of_refs z (pv I (fun r r' q q' e=>ih hu1 r r' q q' e) (sm _ _ a1) (sm _ _ a2) b1 b2 e hu0)
  ·
   rename_i n' xs ys hn;cases hn
   have r0:=r;have r0':=r'
   obtain⟨p,vs,rfl,a1,b1⟩:=r
   obtain⟨p',vs',rfl,a2,b2⟩:=r'
   cases q;cases q'
   by_cases z:p=p'
   ·subst z
    rw[oH r0 r0' e0]
    exact EqAt.same _
   ·exact .of_refs z (m8 I (fun r r' q q' e=>ih hu1 r r' q q' e) (sm _ _ a1) (sm _ _ a2) b1 b2 e hu0)
  ·cases e
def vh (K:PySem.W.Frag) (n:Nat) (neg:Bool):R2:=fun x y H Q=>∃ F d d' k,aE F H∧fJ K F H d x∧fJ K F H d' y∧eqN (n + 1) d d'=some k∧Q (.bl (neg ^^ k)) H
theorem C8 (I:Inv X pins σ H s) (sm:aE F H) (n:Nat) {A:Around} {d d':D} {v v':V} {u u':Value} {k:Bool} (hu:A.units + n + 1 < cLine) (r:fJ K F H d v) (r':fJ K F H d' v') (q:RelV v u) (q':RelV v' u') (e:eqN (n + 1) d d'=some k):RcAt A s u u' k:=by
 have hu0:A.units < cLine:=by omega
 have hu1:A.in1.units + n < cLine:=by show A.units + 1 + n < cLine;omega
 unfold eqN at e
 split at e
 ·cases r;cases r';cases e;cases q;cases q';exact .none_none
 ·cases r;cases r';cases e;cases q;cases q';exact .bool_bool _ _
 ·cases r;cases r';cases e;obtain⟨t,rfl⟩:=q;obtain⟨t',rfl⟩:=q';exact .int_int _ _ _ _
 ·cases r;cases r';cases e;obtain⟨t,rfl⟩:=q;obtain⟨t',rfl⟩:=q';exact .str_str _ _ _ _
 ·rename_i n' xs ys hn;cases hn
  obtain⟨p,vs,rfl,a1,b1⟩:=r
  obtain⟨p',vs',rfl,a2,b2⟩:=r'
  cases q;cases q'
  exact pv I (fun r r' q q' e=>oJ I sm _ hu1 r r' q q' e) a1 a2 b1 b2 e hu0
 ·rename_i n' xs ys hn;cases hn
  obtain⟨p,vs,rfl,a1,b1⟩:=r
  obtain⟨p',vs',rfl,a2,b2⟩:=r'
  cases q;cases q'
  exact m8 I (fun r r' q q' e=>oJ I sm _ hu1 r r' q q' e) (sm _ _ a1) (sm _ _ a2) b1 b2 e hu0
 ·cases e
theorem Bj (hK:X.K=K) {n:Nat} (hu:X.A.units + n + 1 < cLine):OpR X (compareOp .Eq) (vh K n false):=by
 intro pins s σ H x y v u Q I rx ry h
 obtain⟨F,d,d',k,sm,r,r',e,q⟩:=h
 refine C8 I sm n hu r r' rx ry e _ _ _ _ (oF I q (by simp))
def yS (n:Nat) (neg:Bool) (x y:D) (Γ:G) (Q:RV→G→Prop):Prop:=∃ k,eqN (n + 1) x y=some k∧Q (.fz (.bl (neg ^^ k))) Γ
theorem wH {n:Nat} {neg:Bool}:j4 K (vh K n neg) (yS n neg):=by
 intro B F σ H Γ x y dx dy Q QQ e rx ry q k
 obtain⟨b,hb,q⟩:=q
 exact⟨F,dx,dy,b,e.sub,rx,ry,hb,k _ _ (jK e q)⟩
theorem cE (hK:X.K=K) {k:Nat} (hr:cJ k X.A):C3 K X .Eq (vh K 20 false) (yS 20 false):=⟨Bj hK (by have:=hr.un;omega),wH⟩
end
end L3
namespace L3
open PySem L2 PySem.Spec PySem.SeqAt
section
variable {K:PySem.W.Frag} {X:Cx} {F H:Hp} {pins:List (Addr×Obj)} {σ:L2.St} {s:Shared}
theorem uY {n:Nat} {A:Around} {p q:Addr} {xs ys:List D} {vs ws:List V} {k:Bool} (I:Inv X pins σ H s) (ih:∀ {d d':D} {v v':V} {u u':Value} {k:Bool},Rep K F d v→Rep K F d' v'→RelV v u→RelV v' u'→eqN n d d'=some k→EqAt A.in1 s u u' k)
  (h1:H p=some (.lst vs)) (h2:H q=some (.lst ws)) (r1:av K F xs vs) (r2:av K F ys ws) (he:dz n xs ys=some k) (hu:A.units < cLine):RcNeAt A s (.ref p) (.ref q) (!k):=by
 obtain⟨us,q1,l1⟩:=oA I h1
 obtain⟨zs,q2,l2⟩:=oA I h2
 have n1:us.toArray.size=xs.length:=by rw[← r1.length,q1.length];simp
 have n2:zs.toArray.size=ys.length:=by rw[← r2.length,q2.length];simp
 by_cases hl:xs.length=ys.length
 ·obtain⟨e,g,rfl⟩:=iF he
  have:=RcNeAt.lists l1 l2 (by rw[n1,n2,hl]) hu (oK ih r1 r2 q1 q2 g)
  rw[n1] at this
  rw[hl,Nat.min_self,beq_self_eq_true,Bool.and_true]
  rw[hl] at this
  exact this
 ·rw[mn he hl]
  refine RcNeAt.lists_lengths l1 l2 ?_ hu
  rw[n1,n2,bne_iff_ne];exact hl
theorem tU {n:Nat} {A:Around} {p q:Addr} {xs ys:List D} {vs ws:List V} {k:Bool} (I:Inv X pins σ H s) (ih:∀ {d d':D} {v v':V} {u u':Value} {k:Bool},Rep K F d v→Rep K F d' v'→RelV v u→RelV v' u'→eqN n d d'=some k→EqAt A.in1 s u u' k)
  (h1:H p=some (.tup vs)) (h2:H q=some (.tup ws)) (r1:av K F xs vs) (r2:av K F ys ws) (he:dz n xs ys=some k) (hu:A.units < cLine):RcNeAt A s (.ref p) (.ref q) (!k):=by
 obtain⟨us,q1,l1⟩:=oz I h1
 obtain⟨zs,q2,l2⟩:=oz I h2
 have n1:us.toArray.size=xs.length:=by rw[← r1.length,q1.length];simp
 have n2:zs.toArray.size=ys.length:=by rw[← r2.length,q2.length];simp
 obtain⟨e,g,rfl⟩:=iF he
 have:=RcNeAt.tuples l1 l2 hu (oK ih r1 r2 q1 q2 g)
 rw[n1,n2] at this
 exact this
theorem C4 (I:Inv X pins σ H s) (sm:aE F H) (n:Nat) {A:Around} {d d':D} {v v':V} {u u':Value} {k:Bool} (hu:A.units + n + 1 < cLine) (r:fJ K F H d v) (r':fJ K F H d' v') (q:RelV v u) (q':RelV v' u') (e:eqN (n + 1) d d'=some k):RcNeAt A s u u' (!k):=by
 have hu0:A.units < cLine:=by omega
 have hu1:A.in1.units + n < cLine:=by show A.units + 1 + n < cLine;omega
 unfold eqN at e
 split at e
 ·cases r;cases r';cases e;cases q;cases q';exact .none_none
 ·cases r;cases r';cases e;cases q;cases q';exact .bool_bool _ _
 ·cases r;cases r';cases e;obtain⟨t,rfl⟩:=q;obtain⟨t',rfl⟩:=q';exact .int_int _ _ _ _
 ·cases r;cases r';cases e;obtain⟨t,rfl⟩:=q;obtain⟨t',rfl⟩:=q';exact .str_str _ _ _ _
 ·rename_i n' xs ys hn;cases hn
  obtain⟨p,vs,rfl,a1,b1⟩:=r
  obtain⟨p',vs',rfl,a2,b2⟩:=r'
  cases q;cases q'
  exact uY I (fun r r' q q' e=>oJ I sm _ hu1 r r' q q' e) a1 a2 b1 b2 e hu0
 ·rename_i n' xs ys hn;cases hn
  obtain⟨p,vs,rfl,a1,b1⟩:=r
  obtain⟨p',vs',rfl,a2,b2⟩:=r'
  cases q;cases q'
  exact tU I (fun r r' q q' e=>oJ I sm _ hu1 r r' q q' e) (sm _ _ a1) (sm _ _ a2) b1 b2 e hu0
 ·cases e
theorem Bf (hK:X.K=K) {n:Nat} (hu:X.A.units + n + 1 < cLine):OpR X (compareOp .NotEq) (vh K n true):=by
 intro pins s σ H x y v u Q I rx ry h
 obtain⟨F,d,d',k,sm,r,r',e,q⟩:=h
 refine C4 I sm n hu r r' rx ry e _ _ _ _ (oF I q (by simp))
theorem iI (hK:X.K=K) {k:Nat} (hr:cJ k X.A):C3 K X .NotEq (vh K 20 true) (yS 20 true):=⟨Bf hK (by have:=hr.un;omega),wH⟩
theorem nK {n:Nat}:∀ (xs ys:List Int),dz n (xs.map .int) (ys.map .int)=some (decide (xs=ys))
 | [],[]=>by simp [dz]
 | x::xs,[]=>by simp [dz]
 | [],y::ys=>by simp [dz]
 | x::xs,y::ys=>by
  simp only[List.map_cons,dz,nK xs ys,eqN]
  congr 1
  rw[Bool.eq_iff_iff]
  simp
theorem mm {n:Nat} (xs ys:List Int):eqN (n + 1) (.lst (xs.map .int)) (.lst (ys.map .int))=some (decide (xs=ys)):=by
 unfold eqN;exact nK xs ys
end
end L3
namespace L2
open PySem PySem.Spec PyProof.Rows
structure Acc (Y:Cx) (D:Addr) (pl:List (Addr×Obj)) (ys:List V) (σ:St) (H:Hp) (s:Shared):Prop where
 us:∃ us,Inv Y ((D,dW us us.length)::pl) σ H s∧Vals ys us
 exD:D∈Y.ex
 nd:∀ p∈Y.pn++pl,p.1≠D
abbrev TB:=List V→St→Hp→(List V→St→Hp→Prop)→Prop
def PB (Y:Cx) (D:Addr) (m:Sem Fin→Sem Fin) (t:TB):Prop:=
 ∀ (k:Sem Fin) (pl:List (Addr×Obj)) (s:Shared) (ys:List V) (σ:St) (H:Hp) (Q:List V→St→Hp→Prop) (R:Fin→Shared→Prop),Acc Y D pl ys σ H s→t ys σ H Q→
  (∀ ys' σ' H' s',Acc Y D pl ys' σ' H' s'→Q ys' σ' H'→wpAny (model Y.prog Y.w) Y.A k R (fun _ _=>False) s')→wpAny (model Y.prog Y.w) Y.A (m k) R (fun _ _=>False) s
section
variable {Y:Cx} {D:Addr}
def xl (te:TE):TB:=fun ys σ H Q=>ys.length < sizeLine∧te σ H fun y H'=>Q (ys++[y]) σ H'
abbrev z7 (elt:Expr) (D:Addr) (env:Env) (k:Sem Fin):Sem Fin:=(eval elt env >>= fun x=>call (.builtin "list.append") [.ref D,x] >>= fun _=>pure ()) >>= fun _=>k
theorem Acc.pins {pl:List (Addr×Obj)} {ys:List V} {σ σ':St} {H H':Hp} {s s':Shared} {us:List Value} (a:Acc Y D pl ys σ H s) (I:Inv Y ((D,dW us us.length)::pl) σ' H' s') (r:Vals ys us):Acc Y D pl ys σ' H' s':=⟨⟨us,I,r⟩,a.exD,a.nd⟩
theorem yc {elt:Expr} {te:TE} (hx:Y.xe=fun _ _=>False) (he:PE Y elt te):PB Y D (z7 elt D Y.env) (xl te):=by
 intro k pl s ys σ H Q R a ⟨hz,q⟩ hk
 obtain⟨us,I,rv⟩:=a.us
 have he':=he _ s σ H _ I q
 rw[hx] at he'
 refine wpAny_bind (wpAny_bind (thn he' fun y s7 ⟨yv,H7,I7,r7,q7⟩=>wpAny_bind ?_))
 obtain⟨pD,pH,pL,pF,pc⟩:=I7.pin (D,dW us us.length) (List.mem_append_right _ List.mem_cons_self)
 have hlen:us.length=ys.length:=rv.length.symm
 refine append_at (hsz:=by rw[List.size_toArray,hlen];exact Nat.le_of_lt hz) pD fun h8 sb8 hD8=>wpAny_pure ?_
 have I7n:Inv Y pl σ H7 s7:=I7.gG fun p z=>I7.pin p (List.mem_append_right _ (List.mem_cons_of_mem _ z))
 have I8:Inv Y pl σ H7 { s7 with heap:=h8 }:=I7n.turned (t':=s7.toks) (it:=D) (fun b o hb e=>(sb8.2 b hb).trans e) pH pL (.inl a.exD) (fun x c e=>(I7.ok.exf D a.exD).2 x c e) a.nd
 have e8:h8.get? D=some (dW (us++[y]) (us++[y]).length):=by
  rw[hD8]
  simp
 refine hk (ys++[yv]) σ H7 _ ⟨⟨us++[y],I8.gG fun p z=>?_,rv.append (.cons r7 .nil)⟩,a.exD,a.nd⟩ q7
 rcases List.mem_cons.mp z with e | z
 ·subst e;exact⟨e8,pH,pL,pF,fun v z=>by cases z⟩
 ·exact I8.pin p (List.mem_append_right _ z)
def bIf (tc:TT) (t:TB):TB:=fun ys σ H Q=>tc σ H fun b H'=>if b=true then t ys σ H' Q else Q ys σ H'
abbrev ifK (c:Expr) (env:Env) (m:Sem Fin→Sem Fin) (k:Sem Fin):Sem Fin:=(forIn [c] true fun c r=>if r=true then do let ok ← isTrue c env (eval c env);pure (ForInStep.yield ok) else pure (ForInStep.yield r)) >>= fun ok=>if ok=true then m k else k
def qm (J:It) (g:TG) (t:TB):TB:=fun ys σ H Q=>∃ W:Nat→Nat→List V→St→Hp→Prop,(∃ m,W 0 m ys σ H)∧∀ i m ys σ H,W i m ys σ H→
 (J.stop i H∧Q ys σ H)∨(J.go i H∧∀ x H',J.yld i H x H'→g x σ H' fun σ2 H2=>t ys σ2 H2 fun ys' σ' H''=>∃ m',m' < m∧W (i + 1) m' ys' σ' H'')
theorem zI {elt:Expr} {gens:List Comprehension} {sc:Scope} {pos p0:Pos} {d:Nat} {tg:Expr} {it:Addr} {fp:List Addr} {tn:Nat→Heap→Prop} {J:It} {g:TG} {m:Sem Fin→Sem Fin} {t:TB}
  (hx:Y.xe=fun _ _=>False) (hc:Y.calm=true) (T:Turn Y.prog Y.w Y.K tg J fp it tn) (hg:PG Y tg g) (hm:PB Y D m t)
  (hturn:compTurn (.ListComp elt gens sc pos) d (.ref it) (.ref D) Y.env=(standAt p0 >>= fun _=>pyNext (.ref it) >>= fun r=>match r with
   | none=>pure (.done .next)
   | some v=>letOwnedTupleGo tg (.ref it) v >>= fun _=>assign tg Y.env v >>= fun _=>m (again (.compLoop (.ListComp elt gens sc pos) d (.ref it) (.ref D) Y.env))))
  {pl:List (Addr×Obj)} {ys:List V} {σ:St} {H:Hp} {s:Shared} {Q:List V→St→Hp→Prop} {R:Result→Shared→Prop} (a:Acc Y D pl ys σ H s) (st:tn 0 s.heap) (f:∀ b∈fp,gw Y pl H b∧D≠b) (q:qm J g t ys σ H Q)
  (hR:∀ ys' σ' H' s',Acc Y D pl ys' σ' H' s'→Q ys' σ' H'→R (.ok .next) s'):codeAny (model Y.prog Y.w) Y.A (.compLoop (.ListComp elt gens sc pos) d (.ref it) (.ref D) Y.env) R s:=by
 obtain⟨W,⟨m0,w0⟩,turn⟩:=q
 have stat:∀ {H':Hp} {o:Obj},(∀ b∈fp,H' b=none)→∀ b∈fp,gw Y ((D,o)::pl) H' b:=fun hn b hb=>by
  obtain⟨⟨_,f1,f2,f3,f4,f5⟩,f6⟩:=f b hb
  refine⟨hn b hb,f1,f2,f3,f4,fun p hp=>?_⟩
  rcases List.mem_append.mp hp with hp | hp
  ·exact f5 p (List.mem_append_left _ hp)
  ·rcases List.mem_cons.mp hp with e | hp
   ·subst e;exact f6
   ·exact f5 p (List.mem_append_right _ hp)
 refine codeAny_loop rfl (fun n s'=>∃ i ys' σ' H',Acc Y D pl ys' σ' H' s'∧tn i s'.heap∧(∀ b∈fp,H' b=none)∧W i n ys' σ' H') (fun n s3 hI=>?_) m0 ⟨0,ys,σ,H,a,st,fun b hb=>(f b hb).1.1,w0⟩
 show wpAny _ _ ((compTurn (.ListComp elt gens sc pos) d (.ref it) (.ref D) Y.env).onRaise (fun x=>do noteFrame x Y.env;theTreesLotGoes x)) _ _ s3
 refine wpAny_noted ?_
 rw[hturn]
 obtain⟨i,ys3,σ3,H3,a3,st3,fr3,w3⟩:=hI
 obtain⟨us3,I3,rv3⟩:=a3.us
 have noE:∀ {M:Model} {A:Around} {α:Type} {t:Sem α} {Q:α→Shared→Prop} {E:Value→Shared→Prop} {s:Shared},wpAny M A t Q (fun _ _=>False) s→wpAny M A t Q E s:=fun h=>wpAny_mono h (fun _ _ x=>x) fun _ _ x=>x.elim
 refine wpAny_bind (wpAny_standAt (wpAny_bind ?_))
 rcases turn i n ys3 σ3 H3 w3 with ⟨stop,qn⟩ | ⟨go,step⟩
 ·refine noE (thn (T.done Y rfl rfl rfl hc i _ s3 σ3 H3 _ I3 (stat fr3) st3 stop) fun r s4 ⟨hr,I4⟩=>?_)
  subst hr
  exact wpAny_pure (hR ys3 σ3 H3 s4 (a3.pins I4 rv3) qn)
 ·refine noE (thn (T.item Y rfl rfl rfl hc i _ s3 σ3 H3 _ I3 (stat fr3) st3 go) fun r s4 ⟨u,hr,h4⟩=>?_)
  subst hr
  refine wpAny_bind (noE (thn h4 fun _ s5 ⟨x,H5,I5,r5,y5,st5,fr5⟩=>?_))
  have I5':=I5.pinned (stat fr5) (T.obj _ _ st5)
  have hg':=hg _ s5 σ3 H5 x u _ I5' r5 (step x H5 y5)
  rw[hx] at hg'
  refine wpAny_bind (noE (thn hg' fun _ s6 ⟨σ6,H6,I6,q6⟩=>?_))
  have a6:Acc Y D (pl++lS fp s5.heap) ys3 σ6 H6 s6:=⟨⟨us3,I6,rv3⟩,a.exD,fun p hp=>by
   rcases List.mem_append.mp hp with hp | hp
   ·exact a.nd p (List.mem_append_left _ hp)
   ·rcases List.mem_append.mp hp with hp | hp
    ·exact a.nd p (List.mem_append_right _ hp)
    ·exact fun z=>(f p.1 (nv hp).1).2 z.symm⟩
  refine noE (hm _ _ s6 ys3 σ6 H6 _ _ a6 q6 fun ys7 σ7 H7 s7 a7 ⟨m',hlt,w7⟩=>wpAny_pure ⟨rfl,m',hlt,i + 1,ys7,σ7,H7,?_,?_,?_,w7⟩)
  ·obtain⟨us7,I7,rv7⟩:=a7.us
   exact⟨⟨us7,I7.gG fun p hp=>I7.pin p (List.mem_append_right _ (by
    rcases List.mem_cons.mp hp with e | hp
    ·subst e;exact List.mem_cons_self
    ·exact List.mem_cons_of_mem _ (List.mem_append_left _ hp))),rv7⟩,a.exD,a.nd⟩
  ·obtain⟨us7,I7,rv7⟩:=a7.us
   exact T.keep _ _ _ st5 fun b hb o e=>(I7.pin (b,o) (List.mem_append_right _ (List.mem_cons_of_mem _ (List.mem_append_right _ (el hb e))))).1
  ·intro b hb
   obtain⟨us7,I7,rv7⟩:=a7.us
   obtain⟨o,e,d⟩:=T.obj _ _ st5 b hb
   exact(I7.pin (b,o) (List.mem_append_right _ (List.mem_cons_of_mem _ (List.mem_append_right _ (el hb e))))).2.1
end
end L2
namespace L2
open PySem PySem.Spec PyProof.Rows
theorem jU {prog:Program} {w:World} {A:Around} {R:Result→Shared→Prop} {s:Shared} {elt:Expr} {gens:List Comprehension} {sc:Scope} {pos:Pos} {d:Nat} {it acc:Value} {env:Env} {tg iter:Expr} {ifs:List Expr} (hcl:gens[d]?=some ⟨tg,iter,ifs,0⟩)
  (same:codeAny (model prog w) A (.compLoop (.ListComp elt gens sc pos) d it acc env) R s)
  (anew:wpAny (model prog w) A (pyIter it) (fun it2 s2=>codeAny (model prog w) A (.compLoop (.ListComp elt gens sc pos) d it2 acc env) R s2) (notedBy (model prog w) A env fun x s2=>R (.error x) s2) s) :
  codeAny (model prog w) A (.compStart (.ListComp elt gens sc pos) d it acc env) R s:=by
 have cl:(clausesOf (.ListComp elt gens sc pos))[d]?=some ⟨tg,iter,ifs,0⟩:=hcl
 apply codeAny_of_tree
 apply wpAny_notedAt (pos:=theWindowsPlace) (m:=compStart (.ListComp elt gens sc pos) d it acc env)
 simp only[compStart,cl]
 apply wpAny_bind
 apply wpAny_askSetting
 apply wpAny_ite
 split
 ·exact wpAny_pure ⟨rfl,same⟩
 ·apply wpAny_bind
  apply wpAny_rule
  apply wpAny_bind
  apply wpAny_standAt
  exact wpAny_bind (wpAny_mono anew (fun _ _ q=>wpAny_pure ⟨rfl,q⟩) fun _ _ q=>q)
section
variable {Y:Cx} {D:Addr}
def xk (wi:TI) (g:TG) (t:TB):TB:=fun ys σ H Q=>wi σ H fun J H1=>qm J g t ys σ H1 Q
abbrev zA (elt:Expr) (gens:List Comprehension) (sc:Scope) (pos:Pos) (d:Nat) (iter:Expr) (D:Addr) (env:Env) (k:Sem Fin):Sem Fin:=
 eval iter env >>= fun x=>standAt iter.pos >>= fun _=>foldedSetIterable iter env x >>= fun x=>holding [x] (pyIter x) >>= fun itv=>runOwn (.compStart (.ListComp elt gens sc pos) d itv (.ref D) env) env >>= fun _=>k
theorem yb {elt:Expr} {gens:List Comprehension} {sc:Scope} {pos p0:Pos} {d:Nat} {tg iter:Expr} {ifs:List Expr} {wi:TI} {g:TG} {m:Sem Fin→Sem Fin} {t:TB} (hx:Y.xe=fun _ _=>False) (hc:Y.calm=true) (hcl:gens[d]?=some ⟨tg,iter,ifs,0⟩)
  (hi:PI Y tg iter wi) (hg:PG Y tg g) (hm:PB Y D m t)
  (hturn:∀ it,compTurn (.ListComp elt gens sc pos) d (.ref it) (.ref D) Y.env=(standAt p0 >>= fun _=>pyNext (.ref it) >>= fun r=>match r with
   | none=>pure (.done .next)
   | some v=>letOwnedTupleGo tg (.ref it) v >>= fun _=>assign tg Y.env v >>= fun _=>m (again (.compLoop (.ListComp elt gens sc pos) d (.ref it) (.ref D) Y.env))))
  (hs:∀ x,foldedSetIterable iter Y.env x=pure x:=by intro _;rfl):PB Y D (zA elt gens sc pos d iter D Y.env) (xk wi g t):=by
 intro k pl s ys σ H Q R a q hk
 obtain⟨us,I,rv⟩:=a.us
 have hi':=hi _ s σ H _ I q
 rw[hx] at hi'
 refine wpAny_bind (thn hi' fun v s1 h1=>wpAny_bind (wpAny_standAt (wpAny_bind ?_)))
 rw[hs]
 refine wpAny_pure (wpAny_bind (wpAny_holding (thn h1 fun itv s2 h2=>?_)))
 obtain⟨it,fp,tn,J,H2,e,I2,T,st2,f2,cw⟩:=h2
 subst e
 have a2:=a.pins I2 rv
 refine wpAny_bind (wpAny_runOwn ?_)
 have lp:∀ {R:Result→Shared→Prop},(∀ ys' σ' H' s',Acc Y D pl ys' σ' H' s'→Q ys' σ' H'→R (.ok .next) s')→codeAny (model Y.prog Y.w) Y.A (.compLoop (.ListComp elt gens sc pos) d (.ref it) (.ref D) Y.env) R s2:=fun hR=>
  zI hx hc T hg hm (hturn it) a2 st2 (fun b hb=>by
   obtain⟨f0,f1,f3,f4,f5,f6⟩:=f2 b hb
   exact⟨⟨f0,f1,f3,f4,f5,fun p hp=>f6 p (by
    rcases List.mem_append.mp hp with hp | hp
    ·exact List.mem_append_left _ hp
    ·exact List.mem_append_right _ (List.mem_cons_of_mem _ hp))⟩,f6 (D,_) (List.mem_append_right _ List.mem_cons_self)⟩) cw hR
 have fin:=lp (R:=fun r s'=>match r with | .ok f=>wpAny (model Y.prog Y.w) Y.A k R (fun _ _=>False) s' | .error e=>False) fun ys' σ' H' s' a' q'=>hk ys' σ' H' s' a' q'
 have fin2:codeAny (model Y.prog Y.w) Y.A (.compLoop (.ListComp elt gens sc pos) d (.ref it) (.ref D) Y.env) (fun r s'=>match r with | .ok f=>wpAny (model Y.prog Y.w) Y.A k R (fun _ _=>False) s' | .error e=>cameBackBy (model Y.prog Y.w) Y.A Y.env (fun _ _=>False) e s') s2:=
  codeAny_mono fin fun r s' h=>by cases r with | ok f=>exact h | error e=>exact h.elim
 exact jU hcl fin2 (wpAny_mono (T.self Y.A 0 _ _ (fun _ _=>False) st2 fin2) (fun _ _ h=>h) fun _ _ h=>h.elim)
end
end L2
namespace L2
open PySem PySem.Spec PyProof.Rows
section
variable {X:Cx}
theorem qc {elt iter tg:Expr} {gens:List Comprehension} {ifs:List Expr} {sc:Scope} {pos p0:Pos} {Nc:List Str} {fr:List (Option Nat)} {g:TG} {m:Addr→Env→Sem Fin→Sem Fin} {t:TB} (hcl:gens[0]?=some ⟨tg,iter,ifs,0⟩) (B:Blk X.N X.env.scope sc Nc fr) (hc:X.calm=true)
  (hg:∀ s₀ H₀ C ex pn,PG (bJ X sc Nc s₀ H₀ C ex pn) tg g) (hm:∀ s₀ H₀ C ex pn D,PB (bJ X sc Nc s₀ H₀ C ex pn) D (m D (bJ X sc Nc s₀ H₀ C ex pn).env) t)
  (hturn:∀ (it D:Addr) (env:Env),compTurn (.ListComp elt gens sc pos) 0 (.ref it) (.ref D) env=(standAt p0 >>= fun _=>pyNext (.ref it) >>= fun r=>match r with
   | none=>pure (.done .next)
   | some v=>letOwnedTupleGo tg (.ref it) v >>= fun _=>assign tg env v >>= fun _=>m D env (again (.compLoop (.ListComp elt gens sc pos) 0 (.ref it) (.ref D) env))))
  {pins:List (Addr×Obj)} {σ:St} {s2:Shared} {H2:Hp} {it:Addr} {fp:List Addr} {tn:Nat→Heap→Prop} {J:It} (I2:Inv X pins σ H2 s2) (T:Turn X.prog X.w X.K tg J fp it tn) (st2:tn 0 s2.heap) (f2:∀ b∈fp,gw X pins H2 b)
  {Q:VK} (cw:qm J g t [] (iL fr σ) H2 fun ys _ H'=>ys.length < sizeLine∧∀ l,H' l=none→Q (.ref l) (upd H' l (.lst ys))) {RR:Value→Addr→Result→Shared→Prop} {E:Value→Shared→Prop}
  (hRR:∀ D C s' H',Inv X pins σ H' s'→(∃ m,s'.heap.Ns C m)→gw X pins H' C→Q (.ref D) H'→RR (.ref D) C (.ok .next) s') :
  wpAny (model X.prog X.w) X.A (newList []) (fun acc s₃=>wpAny (model X.prog X.w) X.A (newFunctionEnv sc X.env.globals (takes X.env.cells sc.names []) [] X.env.qual none .none (some X.env)) (fun cenv s₄=>
   codeAny (model X.prog X.w) X.A (.compStart (.ListComp elt gens sc pos) 0 (.ref it) acc { cenv with scope:=relabel sc X.env }) (RR acc cenv.locals) s₄) E s₃) E s2:=by
 refine wpAny_newObj_type (wpAny_newFunctionEnv B.nocell (by intro y hy;simp at hy) (fun h₁ hns₁ hsb₁=>?_) B.kind)
 dsimp only at hns₁ hsb₁ ⊢
 generalize hH2:s2.heap.push { cls:=.type "list",dict:=none,data:=.seq ([]:List Value).toArray }=hp at hns₁ hsb₁ ⊢
 have hCs:hp.objs.size=s2.heap.objs.size + 1:=by rw[← hH2,Heap.size_push]
 generalize hCe:hp.objs.size=C at hns₁ hsb₁ ⊢
 generalize hDe:s2.heap.objs.size=D at hCs ⊢
 have hDC:D≠C:=by rw[← hCe,hCs];exact Nat.ne_of_lt (Nat.lt_succ_self _)
 have up:∀ b o,s2.heap.get? b=some o→hp.get? b=some o:=fun b o e=>by rw[← hH2];exact Heap.get?_push_of_some _ e
 have hDp:hp.get? D=some (dW [] 0):=by rw[← hH2,← hDe];exact Heap.get?_push_size _ rfl
 have I3:Inv X pins σ H2 { s2 with heap:=hp }:=I2.kept (t':=s2.toks) up
 have hD0:H2 D=none:=I2.hok.fresh (by rw[hDe];exact Nat.le_refl _)
 have fD:gw X pins H2 D:=I2.p6 (by rw[hDe];exact Nat.le_refl _) hD0
 have fpo:∀ b∈fp,∃ o,s2.heap.get? b=some o∧∀ v,o.data≠.cell v:=T.obj 0 _ st2
 have fplt:∀ b∈fp,b < D:=fun b hb=>by obtain⟨o,e,_⟩:=fpo b hb;rw[← hDe];exact Heap.lt_size e
 have hDfp:D∉fp:=fun hb=>Nat.lt_irrefl _ (fplt D hb)
 have hCfp:C∉fp:=fun hb=>by have:=fplt C hb;rw[← hCe,hCs] at this;exact absurd (Nat.lt_of_succ_lt this) (Nat.lt_irrefl _)
 have nobase:∀ b,(b∈X.ex∨X.s₀.heap.objs.size≤b)→∀ o,X.base.get? b≠some o:=fun b h o e=>by
  rcases h with h | h
  ·exact I2.ok.noex b o e h
  ·exact absurd (Nat.lt_of_lt_of_le (Heap.lt_size e) (Nat.le_trans I2.ok.bsz h)) (Nat.lt_irrefl _)
 have hex:∀ b∈D::fp,b < hp.objs.size∧b∉X.fs∧b≠X.env.locals∧(∀ x c,X.env.cells.lookup x=some c→c≠b)∧∀ o,X.base.get? b≠some o:=fun b hb=>by
  have fb:gw X pins H2 b:=by
   rcases List.mem_cons.mp hb with e | hb
   ·rw[e];exact fD
   ·exact f2 b hb
  refine⟨?_,fb.2.2.1,fb.2.1,fb.2.2.2.2.1,nobase b fb.2.2.2.1⟩
  rcases List.mem_cons.mp hb with e | hb
  ·rw[e,hCs];exact Nat.lt_succ_self _
  ·rw[hCs];exact Nat.lt_succ_of_lt (fplt b hb)
 have hCle:hp.objs.size≤C:=by rw[hCe];exact Nat.le_refl _
 have ok:(bJ X sc Nc { s2 with heap:=hp } H2 C (D::fp) (X.pn++pins)).Ok:=xc B I3 hCle hex
 have old:∀ b u,hp.get? b=some u→h₁.get? b=some u:=fun b u e=>by
  have hb:b≠C:=by rw[← hCe];exact Nat.ne_of_lt (Heap.lt_size e)
  exact(hsb₁.2 b hb).trans (Heap.get?_push_of_some _ e)
 have J0:Inv (bJ X sc Nc { s2 with heap:=hp } H2 C (D::fp) (X.pn++pins)) [(D,dW [] 0)] (iL fr σ) H2 { s2 with heap:=h₁,toks:=s2.toks + ([]:List (Str×Value)).length }:=
  tI B ok I3 hCle rfl rfl old hns₁ hDp hD0 fD.2.1 fD.2.2.1 (fun v z=>by cases z)
 have a0:Acc (bJ X sc Nc { s2 with heap:=hp } H2 C (D::fp) (X.pn++pins)) D [] [] (iL fr σ) H2 { s2 with heap:=h₁,toks:=s2.toks + ([]:List (Str×Value)).length }:=
  ⟨⟨[],J0,.nil⟩,List.mem_cons_self,fun p hp'=>fD.2.2.2.2.2 p (by simpa using hp')⟩
 have fpY:∀ b∈fp,gw (bJ X sc Nc { s2 with heap:=hp } H2 C (D::fp) (X.pn++pins)) [] H2 b∧D≠b:=fun b hb=>
  ⟨⟨(f2 b hb).1,fun e=>hCfp (by have e':b=C:=e;rw[← e'];exact hb),ok.exfs b (List.mem_cons_of_mem _ hb),.inl (List.mem_cons_of_mem _ hb),(ok.exf b (List.mem_cons_of_mem _ hb)).2,fun p hp'=>(f2 b hb).2.2.2.2.2 p (by simpa using hp')⟩,fun z=>hDfp (by rw[z];exact hb)⟩
 have loop:codeAny (model X.prog X.w) X.A (.compLoop (.ListComp elt gens sc pos) 0 (.ref it) (.ref D) (compEnvC sc (takes X.env.cells sc.names []) C X.env)) (RR (.ref D) C) { s2 with heap:=h₁,toks:=s2.toks + ([]:List (Str×Value)).length }:=by
  refine zI (Y:=bJ X sc Nc { s2 with heap:=hp } H2 C (D::fp) (X.pn++pins)) (D:=D) rfl hc T (hg _ _ _ _ _) (hm _ _ _ _ _ D) (hturn it D _) a0 (T.keep _ _ _ st2 (fun b _ o e=>old b o (up b o e))) fpY cw fun ys σ4 H3 s4 a4 hq=>?_
  obtain⟨us,I4,rv⟩:=a4.us
  obtain⟨hsz,qn⟩:=hq
  obtain⟨pD,pH,_,_,_⟩:=I4.pin (D,dW us us.length) (List.mem_append_right _ List.mem_cons_self)
  obtain⟨mC',hnC,_⟩:=I4.loc
  have un:Un (frs X.stack) fp H2 (upd H3 D (.lst ys)) s2.heap s4.heap:=by
   have u0:Un (frs X.stack) (D::fp) H2 H3 hp s4.heap:=I4.base
   have neD:∀ {b:Addr} {o:Obj},s2.heap.get? b=some o→b≠D:=fun e=>by rw[← hDe];exact Nat.ne_of_lt (Heap.lt_size e)
   have nx:∀ {b:Addr} {o:Obj},s2.heap.get? b=some o→b∉fp→b∉D::fp:=fun e h1 h2=>by
    rcases List.mem_cons.mp h2 with z | z
    ·exact neD e z
    ·exact h1 z
   have neT:∀ {b:Addr} {o:HO},H2 b=some o→b≠D:=fun e z=>by rw[z,hD0] at e;cases e
   exact⟨fun b o e n hb hx=>u0.keep b o (up b o e) n hb (nx e hx),fun b o e n hb hx=>u0.slot b o (up b o e) n hb (nx e hx),fun b o e n hx=>by rw[ak (neD e)];exact u0.free b o (up b o e) n (nx e hx),
    fun b o e hx=>u0.there b o (up b o e) (nx e hx),fun b xs e=>by rw[ak (neT e)];exact u0.tups b xs e,fun b o xs e=>by rw[ak (neT e)];exact u0.jR b o xs e,fun b ps e=>by rw[ak (neT e)];exact u0.tbls b ps e⟩
  have hok:HOk X.prog X.w (upd H3 D (.lst ys)) s4.heap:=fun b u e=>by
   by_cases hb:b=D
   ·subst hb
    rw[aD] at e
    cases e
    exact⟨Nat.le_of_lt hsz,us,us.length,rv,pD⟩
   ·rw[ak hb] at e
    refine(I4.hok b u e).nW (fun c v _ q=>q) (fun c q=>?_) fun c xs q=>?_
    ·rw[ak (fun z=>by rw[z] at q;rw[show H3 D=none from pH] at q;cases q)];exact q
    ·rw[ak (fun z=>by rw[z] at q;rw[show H3 D=none from pH] at q;cases q)];exact q
  have I5:Inv X pins σ (upd H3 D (.lst ys)) s4:=I2.Ab I4.os un hok I4.bare fun b hb=>⟨(f2 b hb).2.2.2.1,(f2 b hb).2.1,(f2 b hb).2.2.2.2.1,(f2 b hb).2.2.2.2.2⟩
  refine hRR D C s4 _ I5 ⟨mC',hnC⟩ ?_ (qn D pH)
  have hC2:s2.heap.objs.size≤C:=by rw[hDe,← hCe,hCs];exact Nat.le_succ _
  refine I2.p6 hC2 ?_
  rw[ak (Ne.symm hDC)]
  exact I4.free
 exact jU hcl loop (wpAny_mono (T.self X.A 0 _ _ (fun _ _=>False) (T.keep _ _ _ st2 (fun b _ o e=>old b o (up b o e))) loop) (fun _ _ h=>h) fun _ _ h=>h.elim)
def qD (fr:List (Option Nat)) (wi:TI) (g:TG) (t:TB):TE:=fun σ H Q=>wi σ H fun J H1=>qm J g t [] (iL fr σ) H1 fun ys _ H'=>ys.length < sizeLine∧∀ l,H' l=none→Q (.ref l) (upd H' l (.lst ys))
theorem vz {elt iter tg:Expr} {ifs:List Expr} {rest:List Comprehension} {sc:Scope} {pos p0:Pos} {Nc:List Str} {fr:List (Option Nat)} {wi:TI} {g:TG} {m:Addr→Env→Sem Fin→Sem Fin} {t:TB} (hc:X.calm=true) (hi:PI X tg iter wi) (B:Blk X.N X.env.scope sc Nc fr)
  (hg:∀ s₀ H₀ C ex pn,PG (bJ X sc Nc s₀ H₀ C ex pn) tg g) (hm:∀ s₀ H₀ C ex pn D,PB (bJ X sc Nc s₀ H₀ C ex pn) D (m D (bJ X sc Nc s₀ H₀ C ex pn).env) t)
  (hturn:∀ (it D:Addr) (env:Env),compTurn (.ListComp elt (⟨tg,iter,ifs,0⟩::rest) sc pos) 0 (.ref it) (.ref D) env=(standAt p0 >>= fun _=>pyNext (.ref it) >>= fun r=>match r with
   | none=>pure (.done .next)
   | some v=>letOwnedTupleGo tg (.ref it) v >>= fun _=>assign tg env v >>= fun _=>m D env (again (.compLoop (.ListComp elt (⟨tg,iter,ifs,0⟩::rest) sc pos) 0 (.ref it) (.ref D) env)))) (hs:∀ x,foldedSetIterable iter X.env x=pure x:=by intro _;rfl) :
  PE X (.ListComp elt (⟨tg,iter,ifs,0⟩::rest) sc pos) (qD fr wi g t):=by
 intro pins s σ H Q I h
 rw[eval_ListComp]
 refine wpAny_comprehension_free (use:=none) rfl hs (oQ B I) B.kind B.locs (thn (hi pins s σ H _ I h) fun v s1 h1=>thn h1 fun itv s2 h2=>?_)
 obtain⟨it,fp,tn,J,H2,e,I2,T,st2,f2,cw⟩:=h2
 subst e
 refine qc (RR:=fun acc C=>compPost (model X.prog X.w) X.A X.xe none (EP X pins σ Q) acc C) rfl B hc hg hm hturn I2 T st2 f2 cw fun D C s' H' I' hn fC q=>?_
 obtain⟨m,hn⟩:=hn
 exact⟨m,hn,fun h' sb=>⟨.ref D,H',I'.turned (t':=s'.toks) (fun b o hb e=>(sb.2 b hb).trans e) fC.1 fC.2.1 fC.2.2.2.1 fC.2.2.2.2.1 fC.2.2.2.2.2,rfl,q⟩⟩
end
end L2
namespace L3
open PySem L2 PySem.Spec
abbrev jA:=List D→G→(List D→G→Prop)→Prop
def PoL (K:PySem.W.Frag) (B:Bs) (F:Hp) (Q:List D→G→Prop):List V→L2.St→Hp→Prop:=fun ys' σ' H'=>∃ F' Γ' ds',aE F F'∧En K B F' σ' H' Γ'∧av K F' ds' ys'∧Q ds' Γ'
def kH (K:PySem.W.Frag) (t:TB) (b3:jA):Prop:=∀ (B:Bs) (F:Hp) (σ:L2.St) (H:Hp) (Γ:G) (ys:List V) (ds:List D) (Q:List D→G→Prop) (QQ:List V→L2.St→Hp→Prop),En K B F σ H Γ→av K F ds ys→b3 ds Γ Q→(∀ ys' σ' H',PoL K B F Q ys' σ' H'→QQ ys' σ' H')→t ys σ H QQ
structure HP (K:PySem.W.Frag) (Y:Cx) (D:Addr) (m:Sem Fin→Sem Fin) (t:TB) (b3:jA):Prop where
 pe:PB Y D m t
 rf:kH K t b3
def wI (e3:TE3) (ys:List D) (Γ:G) (Q:List D→G→Prop):Prop:=ys.length < sizeLine∧e3 Γ fun r Γ1=>Q (ys++[r.d]) Γ1
def Ek (c3:TT3) (b3:jA) (ys:List D) (Γ:G) (Q:List D→G→Prop):Prop:=c3 Γ fun b Γ1=>match b with
 | true=>b3 ys Γ1 Q
 | false=>Q ys Γ1
def sQ (xs:List D) (g3:TG3) (b3:jA) (ys:List D) (Γ:G) (Q:List D→G→Prop):Prop:=∃ Iv:Nat→List D→G→Prop,Iv 0 ys Γ∧(∀ k d ys Γ,xs[k]?=some d→Iv k ys Γ→g3 d Γ fun Γ'=>b3 ys Γ' (Iv (k + 1)))∧∀ ys Γ,Iv xs.length ys Γ→Q ys Γ
def uZ (i3:TI3) (g3:TG3) (b3:jA) (ys:List D) (Γ:G) (Q:List D→G→Prop):Prop:=i3 Γ fun xs Γ1=>sQ xs g3 b3 ys Γ1 Q
def oN (fr:List (Option Nat)) (i3:TI3) (g3:TG3) (b3:jA) (Γ:G) (Q:RV→G→Prop):Prop:=i3 Γ fun xs Γ1=>sQ xs g3 b3 [] (cC Γ1 (cW fr)) fun ys Γc=>ys.length < sizeLine∧Q (.fr (.lst ys)) (aT fr Γ1 Γc)
section
variable {K:PySem.W.Frag} {X Y:Cx} {Da:Addr} {pos p0:Pos}
theorem vb {te:TE} {e3:TE3} (h:Ref K te e3):kH K (xl te) (wI e3):=by
 intro B F σ H Γ ys ds Q QQ e r ⟨hz,q⟩ k
 refine⟨by rw[r.length];exact hz,h B F σ H Γ _ _ e q fun v H' ⟨F',Γ',rv,s,e',rr,q'⟩=>k _ _ _ ?_⟩
 obtain⟨F2,s2,e2,r2⟩:=e'.frozen rr
 exact⟨F2,Γ',ds++[rv.d],s.trans s2,e2,av.append (ys:=[rv.d]) (r.mono (s.trans s2)) ⟨v,[],rfl,r2,rfl⟩,q'⟩
theorem EO {tc:TT} {c3:TT3} {t:TB} {b3:jA} (hc:kT K tc c3) (h:kH K t b3):kH K (bIf tc t) (Ek c3 b3):=by
 intro B F σ H Γ ys ds Q QQ e r q k
 refine hc B F σ H Γ _ _ e q fun b H' ⟨F',Γ',s,e',q'⟩=>?_
 cases b with
 | true=>exact wc (h B F' σ H' Γ' ys ds Q QQ e' (r.mono s) q' fun ys' σ' H2 ⟨F2,Γ2,d2,s2,rest⟩=>k _ _ _ ⟨F2,Γ2,d2,s.trans s2,rest⟩)
 | false=>exact we (k _ _ _ ⟨F',Γ',ds,s,e',r.mono s,q'⟩)
theorem pj {J:It} {xs:List D} {g:TG} {g3:TG3} {t:TB} {b3:jA} (hg:uA K g g3) (h:kH K t b3) {B:Bs} {F:Hp} {σ:L2.St} {H:Hp} {Γ:G} {ys:List V} {ds:List D} {Q:List D→G→Prop} {QQ:List V→L2.St→Hp→Prop}
  (R:ItR K F J xs) (e:En K B F σ H Γ) (r:av K F ds ys) (q:sQ xs g3 b3 ds Γ Q) (k:∀ ys' σ' H',PoL K B F Q ys' σ' H'→QQ ys' σ' H'):qm J g t ys σ H QQ:=by
 obtain⟨Iv,i0,it,ie⟩:=q
 refine⟨fun i m ys σ H=>m=xs.length - i∧i≤xs.length∧∃ F' Γ' ds,aE F F'∧En K B F' σ H Γ'∧av K F' ds ys∧Iv i ds Γ',⟨_,rfl,Nat.zero_le _,F,Γ,ds,aE.refl F,e,r,i0⟩,?_⟩
 rintro i m ys2 σ2 H2 ⟨rfl,hi,F2,Γ2,ds2,s2,e2,r2,iv⟩
 by_cases lt:i < xs.length
 ·refine .inr ⟨R.go i H2 (s2.trans e2.sub) lt,fun x H3 y=>?_⟩
  have hd:xs[i]?=some xs[i]:=List.getElem?_eq_getElem lt
  obtain⟨F3,s3,e3,r3⟩:=R.turn s2 e2 hd y
  refine hg B F3 σ2 H3 Γ2 x _ _ _ e3 r3 (it i _ ds2 Γ2 hd iv) fun σ' Γ' e4 q4=>?_
  exact h B F3 σ' H3 Γ' ys2 ds2 _ _ e4 (r2.mono s3) q4 fun ys' σ'' H4 ⟨F4,Γ4,d4,s4,e5,r5,iv5⟩=>⟨xs.length - (i + 1),by omega,rfl,lt,F4,Γ4,d4,(s2.trans s3).trans s4,e5,r5,iv5⟩
 ·have z:i=xs.length:=by omega
  subst z
  exact .inl ⟨R.stop _ H2 (s2.trans e2.sub) rfl,k _ _ _ ⟨F2,Γ2,ds2,s2,e2,r2,ie ds2 Γ2 iv⟩⟩
theorem u_ {wi:TI} {i3:TI3} {g:TG} {g3:TG3} {t:TB} {b3:jA} (hi:xo K wi i3) (hg:uA K g g3) (h:kH K t b3):kH K (xk wi g t) (uZ i3 g3 b3):=by
 intro B F σ H Γ ys ds Q QQ e r q k
 refine hi B F σ H Γ _ _ e q fun J H1 F1 Γ1 xs s1 e1 R q1=>?_
 exact pj hg h R e1 (r.mono s1) q1 fun ys' σ' H2 ⟨F2,Γ2,d2,s2,rest⟩=>k _ _ _ ⟨F2,Γ2,d2,s1.trans s2,rest⟩
theorem tW {fr:List (Option Nat)} {wi:TI} {i3:TI3} {g:TG} {g3:TG3} {t:TB} {b3:jA} (nd:(fr.filterMap id).Nodup) (hi:xo K wi i3) (hg:uA K g g3) (h:kH K t b3):Ref K (qD fr wi g t) (oN fr i3 g3 b3):=by
 intro B F σ H Γ Q QQ e q k
 refine hi B F σ H Γ _ _ e q fun J H1 F1 Γ1 xs s1 e1 R q1=>?_
 refine pj hg h R (e1.blk nd) (ds:=[]) rfl q1 fun ys σ' H2 ⟨F2,Γ2,d2,s2,e2,r2,hz,q2⟩=>⟨by rw[r2.length];exact hz,fun l hl'=>k _ _ ?_⟩
 have eo:En K B F2 σ H2 (aT fr Γ1 Γ2):=e1.back (ls:=fr) e2 (by have:=jN (Γ:=Γ1) (σ:=σ) (bs:=cW fr);rw[ma] at this;exact this)
 exact Po.mono (s1.trans s2) (jJ eo hl' r2 q2)
theorem pE {elt i0 t0 i1 t1:Expr} {sc:Scope} {Nc:List Str} {fr:List (Option Nat)} {wi:TI} {i3:TI3} {g:TG} {g3:TG3} {wi1:TI} {j3:TI3} {g1:TG} {h3:TG3} {te:TE} {e3:TE3} (hc:X.calm=true) (hi:P3I K X t0 i0 wi i3) (Bk:Blk X.N X.env.scope sc Nc fr)
  (hg:∀ s₀ H₀ C ex pn,P3G K (bJ X sc Nc s₀ H₀ C ex pn) t0 g g3) (hj:∀ s₀ H₀ C ex pn,P3I K (bJ X sc Nc s₀ H₀ C ex pn) t1 i1 wi1 j3) (hh:∀ s₀ H₀ C ex pn,P3G K (bJ X sc Nc s₀ H₀ C ex pn) t1 g1 h3)
  (he:∀ s₀ H₀ C ex pn,P3 K (bJ X sc Nc s₀ H₀ C ex pn) elt te e3) (hs1:∀ s₀ H₀ C ex pn x,foldedSetIterable i1 (bJ X sc Nc s₀ H₀ C ex pn).env x=pure x:=by intros;rfl) (nd:(fr.filterMap id).Nodup:=by decide) (hs:∀ x,foldedSetIterable i0 X.env x=pure x:=by intro _;rfl) :
  P3 K X (.ListComp elt [⟨t0,i0,[],0⟩,⟨t1,i1,[],0⟩] sc pos) (qD fr wi g (xk wi1 g1 (xl te))) (oN fr i3 g3 (uZ j3 h3 (wI e3))):=
 ⟨vz (m:=fun D env=>zA elt [⟨t0,i0,[],0⟩,⟨t1,i1,[],0⟩] sc pos 1 i1 D env) hc hi.pe Bk (fun a b c d e=>(hg a b c d e).pe)
  (fun a b c d e D=>yb (m:=z7 elt D _) rfl hc (by rfl) (hj a b c d e).pe (hh a b c d e).pe (yc rfl (he a b c d e).pe) (fun _=>rfl) (hs1 a b c d e)) (fun _ _ _=>rfl) hs,
  tW nd hi.rf (hg X.s₀ X.H₀ 0 [] []).rf (u_ (hj X.s₀ X.H₀ 0 [] []).rf (hh X.s₀ X.H₀ 0 [] []).rf (vb (he X.s₀ X.H₀ 0 [] []).rf))⟩
end
end L3
namespace L3
open PySem L2 PySem.Spec
theorem D_ {n:Nat} {a b:Int}:eqN n (.int a) (.int b)=some (a == b):=by cases n <;> rfl
theorem D8 {n:Nat} {a b:Str}:eqN n (.str a) (.str b)=some (a == b):=by cases n <;> rfl
theorem Ea {n:Nat} {a b:Bool}:eqN n (.bl a) (.bl b)=some (a == b):=by cases n <;> rfl
def fo (s:Option D):Option Sl:=s.map Sl.fz
theorem Cb {s:Option Sl} {Γ:G} {i:Nat}:bc (s::Γ) (i + 1)=bc Γ i:=rfl
theorem Cd {Γ:G}:bc (none::Γ) 0=True:=rfl
theorem B9 {d:D} {Γ:G}:bc (some (.fz d)::Γ) 0=True:=rfl
theorem B_ {d:D} {Γ:G}:bc (some (.ow d)::Γ) 0=True:=rfl
theorem Cc {s:Option D} {Γ:G}:bc (fo s::Γ) 0=True:=by cases s <;> rfl
end L3
universe u
namespace L3
open PySem L2 PySem.Spec
structure Tag {α:Sort u} (q:α):Type where
def m1 (o:Option D) (k:D→Prop) (_:Tag k):Prop:=match o with
 | some d=>k d
 | none=>False
theorem sP {d:D} {k:D→Prop} {t:Tag k}:m1 (some d) k t=k d:=rfl
theorem dj {o:Option D} {k:D→Prop} {t:Tag k}:m1 o k t↔∃ d,o=some d∧k d:=by
 cases o with
 | none=>exact⟨fun h=>h.elim,fun ⟨_,h,_⟩=>by cases h⟩
 | some d=>exact⟨fun h=>⟨d,rfl,h⟩,fun ⟨_,h,q⟩=>by cases h;exact q⟩
def hold (S:S3) (Γ:G) (Q:RV→G→Prop) (_:Tag Q):Prop:=S Γ Q
def Aa (fr:List (Option Nat)) (i3:TI3) (g3:TG3) (e3:TE3) (Γ:G) (Q:RV→G→Prop) (_:Tag (fr,i3,g3,e3)) (_:Tag Q):Prop:=qd fr i3 g3 e3 Γ Q
def D5 (i3:TI3) (g3:TG3) (b3:TS3) (D:E3) (Γ:G) (_:Tag (i3,g3,b3)) (_:Tag D):Prop:=Ci i3 g3 b3 D Γ
def wR (fr:List (Option Nat)) (i3:TI3) (g3:TG3) (b3:jA) (Γ:G) (Q:RV→G→Prop) (_:Tag (fr,i3,g3,b3)) (_:Tag Q):Prop:=oN fr i3 g3 b3 Γ Q
theorem wU {fr:List (Option Nat)} {i3:TI3} {g3:TG3} {b3:jA} {Γ:G} {Q:RV→G→Prop}:oN fr i3 g3 b3 Γ Q=wR fr i3 g3 b3 Γ Q ⟨⟩ ⟨⟩:=rfl
theorem yV {fr:List (Option Nat)} {i3:TI3} {g3:TG3} {e3:TE3} {Γ:G} {Q:RV→G→Prop}:qd fr i3 g3 e3 Γ Q=Aa fr i3 g3 e3 Γ Q ⟨⟩ ⟨⟩:=rfl
theorem Cg {i3:TI3} {g3:TG3} {b3:TS3} {D:E3} {Γ:G}:Ci i3 g3 b3 D Γ=D5 i3 g3 b3 D Γ ⟨⟩ ⟨⟩:=rfl
section
variable {op:D→D→TE3} {a3 b3:TB3} {Γ:G} {Q:RV→G→Prop}
theorem uP:kM op a3 b3 Γ Q=(a3 Γ fun x Γ1=>b3 Γ1 fun y Γ2=>m1 (x.at Γ2) (fun dx=>m1 (y.at Γ2) (fun dy=>op dx dy Γ2 Q) ⟨⟩) ⟨⟩):=by
 unfold kM
 congr;funext x Γ1;congr;funext y Γ2
 refine propext ⟨fun ⟨dx,dy,h1,h2,h3⟩=>by rw[h1,h2];exact h3,fun h=>?_⟩
 obtain⟨dx,h1,h⟩:=dj.mp h
 obtain⟨dy,h2,h⟩:=dj.mp h
 exact⟨dx,dy,h1,h2,h⟩
theorem AB {op:D→TE3}:uO op a3 Γ Q=(a3 Γ fun x Γ1=>m1 (x.at Γ1) (fun dx=>op dx Γ1 Q) ⟨⟩):=by
 unfold uO
 congr;funext x Γ1
 exact propext dj.symm
theorem zM {xs:List D} {i:Int}:ix3 (.lst xs) (.int i) Γ Q=m1 (atI xs i) (fun d=>Q (.fz d) Γ) ⟨⟩:=propext dj.symm
theorem DH {xs:List D} {i:Int}:ix3 (.tup xs) (.int i) Γ Q=m1 (atI xs i) (fun d=>Q (.fz d) Γ) ⟨⟩:=propext dj.symm
def mL (o:Option (List D)) (k:List D→Prop) (_:Tag k):Prop:=match o with
 | some d=>k d
 | none=>False
theorem yx {d:List D} {k:List D→Prop} {t:Tag k}:mL (some d) k t=k d:=rfl
theorem y0 {c3:List D→TE3} {t3:fI}:qg c3 t3 Γ Q=(t3 Γ fun bs Γ1=>mL (ats Γ1 bs) (fun ds=>c3 ds Γ1 Q) ⟨⟩):=by
 unfold qg
 congr;funext bs Γ1
 refine propext ⟨fun ⟨ds,h,q⟩=>by rw[h];exact q,fun h=>?_⟩
 cases e:ats Γ1 bs with
 | none=>rw[e] at h;exact h.elim
 | some ds=>rw[e] at h;exact⟨ds,rfl,h⟩
def mN (o:Option Nat) (k:Nat→Prop) (_:Tag k):Prop:=match o with
 | some d=>k d
 | none=>False
theorem yw {d:Nat} {k:Nat→Prop} {t:Tag k}:mN (some d) k t=k d:=rfl
def mI (o:Option D) (k:Int→Prop) (_:Tag k):Prop:=match o with
 | some (.int d)=>k d
 | _=>False
theorem yy {d:Int} {k:Int→Prop} {t:Tag k}:mI (some (.int d)) k t=k d:=rfl
theorem xE {i:Nat} {k3:TB3} {e3:TE3} {D:E3}:sr i k3 e3 D Γ=(e3 Γ fun r Γ1=>(∃ xs,ck Γ1 i=some xs)∧k3 Γ1 fun b Γ2=>mL (ck Γ2 i) (fun xs=>mI (b.at Γ2) (fun k=>mN (ixN xs.length k) (fun j=>D.nx (putD Γ2 i (.lst (xs.set j r.d)))) ⟨⟩) ⟨⟩) ⟨⟩):=by
 unfold sr
 congr;funext r Γ1;congr;funext b Γ2
 refine propext ⟨fun ⟨xs,k,j,h1,h2,h3,q⟩=>?_,fun h=>?_⟩
 ·rw[h1,h2];show mN (ixN xs.length k) _ ⟨⟩;rw[h3];exact q
 ·cases e:ck Γ2 i with
  | none=>rw[e] at h;exact h.elim
  | some xs=>
   rw[e] at h
   replace h:mI (b.at Γ2) (fun k=>mN (ixN xs.length k) (fun j=>D.nx (putD Γ2 i (.lst (xs.set j r.d)))) ⟨⟩) ⟨⟩:=h
   cases e2:b.at Γ2 with
   | none=>rw[e2] at h;exact h.elim
   | some d=>
    rw[e2] at h
    cases d with
    | int k=>
     replace h:mN (ixN xs.length k) (fun j=>D.nx (putD Γ2 i (.lst (xs.set j r.d)))) ⟨⟩:=h
     cases e3:ixN xs.length k with
     | none=>rw[e3] at h;exact h.elim
     | some j=>rw[e3] at h;exact⟨xs,k,j,rfl,rfl,e3,h⟩
    | _=>exact h.elim
end
end L3
namespace L3
open PySem L2
section
variable {K:PySem.W.Frag} {B:Bs} {F:Hp} {σ:L2.St} {H:Hp} {Γ:G}
theorem p5 {α:Type} {l:List α} {a b:α} {i:Nat} (h:(l++[a])[i]?=some b):l[i]?=some b∨(i=l.length∧b=a):=by
 rcases Nat.lt_or_ge i l.length with q | q
 ·rw[List.getElem?_append_left q] at h;exact .inl h
 ·have q2:i=l.length:=by
   have:=(List.getElem?_eq_some_iff.mp h).1
   rw[List.length_append,List.length_singleton] at this
   omega
  subst q2
  rw[List.getElem?_append_right (Nat.le_refl _),Nat.sub_self] at h
  exact .inr ⟨rfl,(Option.some.inj h).symm⟩
theorem bS {α:Type} {l:List α} {a b:α} {i:Nat} (h:l[i]?=some b):(l++[a])[i]?=some b:=by
 rw[List.getElem?_append_left (List.getElem?_eq_some_iff.mp h).1];exact h
theorem dY {α:Type} {l:List α} {a:α}:(l++[a])[l.length]?=some a:=by
 rw[List.getElem?_append_right (Nat.le_refl _),Nat.sub_self];rfl
theorem En.push (e:En K B F σ H Γ) {x:Addr} {d:D} (rv:dC K B F σ H Γ (.ref x) (.fr d)):En K B F (σ++[some (V.ref x)]) H (Γ++[some (Sl.ow d)]):=by
 obtain⟨p,e1,hF,ho,hB,hn⟩:=rv
 cases e1
 have hl:=e.len
 have hG:∀ {i:Nat} {s:Sl},(Γ++[some (Sl.ow d)])[i]?=some (some s)→Γ[i]?=some (some s)∨(i=Γ.length∧s=.ow d):=fun h=>by
  rcases p5 h with q | ⟨q,q2⟩
  ·exact .inl q
  ·cases q2;exact .inr ⟨q,rfl⟩
 have hS:∀ {i:Nat} {s:Option Sl},Γ[i]?=some s→(σ++[some (V.ref x)])[i]?=σ[i]?:=fun h=>by
  have lt:=(List.getElem?_eq_some_iff.mp h).1
  rw[List.getElem?_append_left (by omega)]
 have hat:(σ++[some (V.ref x)])[Γ.length]?=some (some (V.ref x)):=by rw[← hl];exact dY
 have hH:∀ {i:Nat} {c:D},Hld (Γ++[some (Sl.ow d)]) i c→Hld Γ i c∨(i=Γ.length∧c=d):=fun h=>by
  rcases h with h | h
  ·rcases hG h with q | ⟨q,q2⟩
   ·exact .inl (.inl q)
   ·cases q2;exact .inr ⟨q,rfl⟩
  ·rcases hG h with q | ⟨q,q2⟩
   ·exact .inl (.inr q)
   ·cases q2
 have hHS:∀ {i:Nat} {c:D},Hld Γ i c→(σ++[some (V.ref x)])[i]?=σ[i]?:=fun h=>by
  rcases h with h | h <;> exact hS h
 refine⟨e.sub,by simp [hl],?_,?_,?_,?_,?_,?_,e.keep,e.new,e.rest,e.dom⟩
 ·intro i c h
  rcases hG h with q | ⟨_,q⟩
  ·rw[hS q];exact e.fz i c q
  ·cases q
 ·intro i c h
  rcases hH h with q | ⟨rfl,rfl⟩
  ·rw[hHS q];exact e.hl i c q
  ·exact⟨x,hat,hF,ho⟩
 ·intro i c q h a
  rcases hG h with z | ⟨rfl,z⟩
  ·rw[hS z] at a;exact e.ow i c q z a
  ·rw[hat] at a;cases a;exact hB
 ·intro i c q h a
  rcases hG h with z | ⟨_,z⟩
  ·rw[hS z] at a;exact e.ln i c q z a
  ·cases z
 ·intro i j c c' q h h' a a'
  rcases hH h with z | ⟨rfl,rfl⟩
  ·rw[hHS z] at a
   rcases hH h' with z' | ⟨rfl,rfl⟩
   ·rw[hHS z'] at a';exact e.dis i j c c' q z z' a a'
   ·rw[hat] at a';cases a';exact absurd a (hn i c z)
  ·rw[hat] at a;cases a
   rcases hH h' with z' | ⟨rfl,rfl⟩
   ·rw[hHS z'] at a';exact absurd a' (hn j c' z')
   ·rfl
 ·intro i q h
  obtain⟨a,c,b⟩:=e.par i q h
  exact⟨by rw[hS b];exact a,c,bS b⟩
theorem En.pop {x:Addr} {d:D} (e:En K B F (σ++[some (V.ref x)]) H (Γ++[some (Sl.ow d)])):En K B F σ H Γ∧dC K B F σ H Γ (.ref x) (.fr d):=by
 have hl:σ.length=Γ.length:=by have:=e.len;simpa using this
 have hat:(σ++[some (V.ref x)])[Γ.length]?=some (some (V.ref x)):=by rw[← hl];exact dY
 have hS:∀ {i:Nat} {s:Option Sl},Γ[i]?=some s→(σ++[some (V.ref x)])[i]?=σ[i]?:=fun h=>by
  have lt:=(List.getElem?_eq_some_iff.mp h).1
  rw[List.getElem?_append_left (by omega)]
 have hL:Hld (Γ++[some (Sl.ow d)]) Γ.length d:=.inl dY
 have up:∀ {i:Nat} {c:D},Hld Γ i c→Hld (Γ++[some (Sl.ow d)]) i c:=fun h=>h.imp bS bS
 have hHS:∀ {i:Nat} {c:D},Hld Γ i c→(σ++[some (V.ref x)])[i]?=σ[i]?:=fun h=>by
  rcases h with h | h <;> exact hS h
 obtain⟨p,a,b,c⟩:=e.hl _ _ hL
 rw[hat] at a;cases a
 refine⟨⟨e.sub,hl,?_,?_,?_,?_,?_,?_,e.keep,e.new,e.rest,e.dom⟩,x,rfl,b,c,e.ow _ _ _ dY hat,?_⟩
 ·intro i c h
  have:=e.fz i c (bS h)
  rwa [hS h] at this
 ·intro i c h
  have:=e.hl i c (up h)
  rwa [hHS h] at this
 ·intro i c q h a
  exact e.ow i c q (bS h) (by rw[hS h];exact a)
 ·intro i c q h a
  exact e.ln i c q (bS h) (by rw[hS h];exact a)
 ·intro i j c c' q h h' a a'
  exact e.dis i j c c' q (up h) (up h') (by rw[hHS h];exact a) (by rw[hHS h'];exact a')
 ·intro i q h
  obtain⟨a,c,b'⟩:=e.par i q h
  rcases p5 b' with z | ⟨_,z⟩
  ·exact⟨by rw[← hS z];exact a,c,z⟩
  ·cases z
 ·intro i c h q
  have lt:i < Γ.length:=by rcases h with h | h <;> exact(List.getElem?_eq_some_iff.mp h).1
  have:=e.dis i _ c d x (up h) hL (by rw[hHS h];exact q) hat
  omega
end
end L3
namespace L3
open PySem L2
section
variable {K:PySem.W.Frag} {B:Bs} {F:Hp} {σ:L2.St} {H:Hp} {Γ:G}
theorem En.FF (e:En K B F σ H Γ) {i:Nat} {d0 d1:D} (hh:Hld Γ i d0) {p:Addr} (hp:σ[i]?=some (some (V.ref p))) {o1:HO} (r:Own K F (upd H p o1) p d1):En K B F σ (upd H p o1) (putD Γ i d1):=by
 obtain⟨p0,a0,b0,c0⟩:=e.hl i _ hh
 rw[hp] at a0;cases a0
 obtain⟨o,ho⟩:=c0.some
 have hput:(Γ[i]?=some (some (Sl.ow d0))∧putD Γ i d1=Γ.set i (some (.ow d1)))∨(Γ[i]?=some (some (Sl.ln d0))∧putD Γ i d1=Γ.set i (some (.ln d1))):=by
  rcases hh with q | q
  ·exact .inl ⟨q,by unfold putD;rw[q]⟩
  ·exact .inr ⟨q,by unfold putD;rw[q]⟩
 have il:i < Γ.length:=by rcases hput with ⟨q,_⟩ | ⟨q,_⟩ <;> exact(List.getElem?_eq_some_iff.mp q).1
 have other:∀ {j:Nat},j≠i→(putD Γ i d1)[j]?=Γ[j]?:=fun z=>by
  rcases hput with ⟨_,q⟩ | ⟨_,q⟩ <;> rw[q,aw (Ne.symm z)]
 have same:∀ {s:Sl},(putD Γ i d1)[i]?=some (some s)→(s=.ow d1∧Γ[i]?=some (some (Sl.ow d0)))∨(s=.ln d1∧Γ[i]?=some (some (Sl.ln d0))):=fun {s} q=>by
  rcases hput with ⟨a,b⟩ | ⟨a,b⟩
  ·rw[b,au il] at q;cases q;exact .inl ⟨rfl,a⟩
  ·rw[b,au il] at q;cases q;exact .inr ⟨rfl,a⟩
 have hld:∀ {j x},Hld (putD Γ i d1) j x→(j=i∧x=d1)∨(j≠i∧Hld Γ j x):=fun {j x} q=>by
  by_cases z:j=i
  ·subst z
   left
   rcases q with q | q <;> rcases same q with ⟨h,_⟩ | ⟨h,_⟩ <;> cases h <;> exact⟨rfl,rfl⟩
  ·right;exact⟨z,by unfold Hld at q ⊢;rw[other z] at q;exact q⟩
 have hld':∀ {j x},Hld (putD Γ i d1) j x→∃ y,Hld Γ j y:=fun q=>by
  rcases hld q with ⟨rfl,_⟩ | ⟨_,q⟩
  ·exact⟨_,hh⟩
  ·exact⟨_,q⟩
 refine⟨?_,?_,?_,?_,?_,?_,?_,?_,e.keep,e.new,?_,?_⟩
 ·intro b u q
  have z:b≠p:=fun z=>by subst z;rw[b0] at q;cases q
  rw[ak z];exact e.sub b u q
 ·rcases hput with ⟨_,q⟩ | ⟨_,q⟩ <;> rw[q,List.length_set] <;> exact e.len
 ·intro j d q
  by_cases z:j=i
  ·subst z;rcases same q with ⟨h,_⟩ | ⟨h,_⟩ <;> cases h
  ·rw[other z] at q;exact e.fz j d q
 ·intro j d q
  rcases hld q with ⟨rfl,rfl⟩ | ⟨z,q⟩
  ·exact⟨p,hp,b0,r⟩
  ·obtain⟨p',a,b,c⟩:=e.hl j d q
   have ne:p'≠p:=fun y=>z (e.dis j i _ _ p q hh (y ▸ a) hp)
   exact⟨p',a,b,c.mono (aE.refl F) (ak ne)⟩
 ·intro j d p' q a
  by_cases z:j=i
  ·subst z
   rcases same q with ⟨h,g⟩ | ⟨h,g⟩
   ·exact e.ow j _ p' g a
   ·cases h
  ·rw[other z] at q;exact e.ow j d p' q a
 ·intro j d p' q a
  by_cases z:j=i
  ·subst z
   rcases same q with ⟨h,g⟩ | ⟨h,g⟩
   ·cases h
   ·exact e.ln j _ p' g a
  ·rw[other z] at q;exact e.ln j d p' q a
 ·intro j k d d' p' q1 q2
  obtain⟨y1,h1⟩:=hld' q1
  obtain⟨y2,h2⟩:=hld' q2
  exact e.dis j k y1 y2 p' h1 h2
 ·intro j p' q
  obtain⟨a,d,b⟩:=e.par j p' q
  refine⟨a,?_⟩
  by_cases z:j=i
  ·subst z
   rcases hput with ⟨c,_⟩ | ⟨_,c⟩
   ·rw[b] at c;cases c
   ·exact⟨_,by rw[c,au il]⟩
  ·exact⟨d,by rw[other z];exact b⟩
 ·intro b u q n
  have z:b≠p:=fun z=>by
   subst z
   rcases hh with g | g
   ·rw[e.ow i _ _ g hp] at q;cases q
   ·exact n i (e.ln i _ _ g hp)
  rw[ak z];exact e.rest b u q n
 ·intro b q
  by_cases z:b=p
  ·subst z;rw[aD] at q;cases q
  ·rw[ak z] at q;exact e.dom b q
def mf (Γ:G) (i:Nat):Option (Addr×List Str×List D):=match Γ[i]? with
 | some (some (.ow (.ins C ns xs)))=>some (C,ns,xs)
 | some (some (.ln (.ins C ns xs)))=>some (C,ns,xs)
 | _=>none
theorem nF {i:Nat} {C:Addr} {ns:List Str} {xs:List D} (h:mf Γ i=some (C,ns,xs)):Hld Γ i (.ins C ns xs):=by
 unfold mf at h
 split at h
 ·cases h;rename_i q;exact .inl q
 ·cases h;rename_i q;exact .inr q
 ·cases h
theorem pA {f:Str} {v:V}:∀ {fs:List (Str×V)},f∉fs.map (·.1)→gE f v fs=fs++[(f,v)]
 | [],_=>rfl
 | (g,x)::r,h=>by
  simp only[List.map_cons,List.mem_cons,not_or] at h
  show (if g=f then _ else _)=_
  rw[if_neg (Ne.symm h.1),pA h.2];rfl
theorem av.snoc {xs:List D} {vs:List V} (r:av K F xs vs) {d:D} {v:V} (q:Rep K F d v):av K F (xs++[d]) (vs++[v]):=r.append ⟨v,[],rfl,q,rfl⟩
def oI (o:Option (Addr×List Str×List D)) (k:Addr→List Str→List D→Prop):Prop:=match o with
 | some (C,ns,xs)=>k C ns xs
 | none=>False
def uW (C0:Addr) (i:Nat) (f:Str) (e3:TE3) (D:E3) (Γ:G):Prop:=e3 Γ fun r Γ1=>oI (mf Γ1 i) fun C ns xs=>C=C0∧(f∉ns∧ns.length < 1000)∧D.nx (putD Γ1 i (.ins C (ns++[f]) (xs++[r.d])))
variable {X:Cx} {e:Expr} {te:TE} {e3:TE3} {pos:Pos}
theorem u9 {C0:Addr} {i:Nat} {f:Str} (hC:Cls K C0) (hn:eg K C0 f) (h:Ref K te e3):zq K (AI K (cY i) te f) (uW C0 i f e3):=by
 intro B F σ H Γ D D3 en k q
 refine h B F σ H Γ _ _ en q fun v H1 ⟨F1,Γ1,r,s1,e1,rv,q1⟩=>?_
 obtain⟨F2,s2,e2,rp⟩:=e1.frozen rv
 have q2:oI (mf Γ1 i) fun C ns xs=>C=C0∧(f∉ns∧ns.length < 1000)∧D3.nx (putD Γ1 i (.ins C (ns++[f]) (xs++[r.d]))):=q1
 cases w:mf Γ1 i with
 | none=>rw[w] at q2;exact q2.elim
 | some t=>
  obtain⟨C,ns,xs⟩:=t
  rw[w] at q2
  obtain⟨rfl,⟨hf,hl⟩,q2⟩:=q2
  obtain⟨p,a,b,dx,gs,c1,c2,c3⟩:=e2.hl i _ (nF w)
  refine⟨_,a,p,C,dx,gs,rfl,c1,hC,hn,?_,?_⟩
  ·have:=congrArg List.length c2;rw[List.length_map] at this;omega
  ·have hf':f∉gs.map (·.1):=by rw[c2];exact hf
   rw[pA hf']
   have ow:Own K F2 (upd H1 p (.ins C dx (gs++[(f,v)]))) p (.ins C (ns++[f]) (xs++[r.d])):=⟨dx,gs++[(f,v)],aD,by rw[List.map_append,c2];rfl,by rw[List.map_append];exact c3.snoc rp⟩
   exact k.nx F2 σ _ _ (s1.trans s2) (e2.FF (nF w) a ow) q2
theorem xJ {C0:Addr} (i:Nat) {x f:Str} {px p2:Pos} (hK:X.K=K) (hC:Cls K C0) (hn:eg K C0 f) (hx:P3B K X (.Name x px) (cY i) (bor i)) (he:P3 K X e te e3) (hs:swapsWith e (some (.Attribute (.Name x px) f p2)) pos.line X.env=pure false:=by rfl) :
  P3S K X (.Assign [.Attribute (.Name x px) f p2] e pos) (AI K (cY i) te f) (uW C0 i f e3):=⟨by subst hK;exact AZ hx.pe he.pe hs,u9 hC hn he.rf⟩
end
end L3
namespace L3
open PySem L2
section
variable {K:PySem.W.Frag} {B:Bs} {F:Hp} {σ:L2.St} {H:Hp} {Γ:G} {X:Cx}
theorem cu.push {x:V}:∀ {bs:List Bo} {vs:List V},cu K F σ bs vs→cu K F (σ++[some x]) bs vs
 | [],_,h=>h
 | .d d::bs,_,⟨v,ws,h1,h2,h3⟩=>⟨v,ws,h1,h2,cu.push h3⟩
 | .v i::bs,_,⟨v,ws,h1,h2,h3⟩=>⟨v,ws,h1,bS h2,cu.push h3⟩
theorem cu.ds:∀ {ds:List D} {vs:List V},av K F ds vs→cu K F σ (ds.map Bo.d) vs
 | [],_,h=>h
 | _::_,_,⟨v,ws,h1,h2,h3⟩=>⟨v,ws,h1,h2,cu.ds h3⟩
theorem dC.pop {x:Addr} {d:D} {v:V}:∀ {r:RV},dC K B F (σ++[some (V.ref x)]) H (Γ++[some (Sl.ow d)]) v r→σ.length=Γ.length→dC K B F σ H Γ v r
 | .fz _,h,_=>h
 | .fr _,⟨p,h1,h2,h3,h4,h5⟩,hl=>⟨p,h1,h2,h3,h4,fun i e he q=>h5 i e (he.imp bS bS) (bS q)⟩
 | .rws _,⟨p,qs,h1,h2,h3,h4,h8⟩,hl=>⟨p,qs,h1,h2,h3,h4,fun z hz=>⟨(h8 z hz).1,(h8 z hz).2.1,fun i e he q=>(h8 z hz).2.2 i e (he.imp bS bS) (bS q)⟩⟩
 | .two _ _,⟨t,p,q,vs,ws,h1,h2,h3,h4,h5,h6,h7,h8⟩,hl=>⟨t,p,q,vs,ws,h1,h2,h3,h4,h5,h6,h7,fun z hz=>⟨(h8 z hz).1,(h8 z hz).2.1,fun i e he q=>(h8 z hz).2.2 i e (he.imp bS bS) (bS q)⟩⟩
theorem pZ:∀ ds:List D,cn (ds.map Bo.d)=[]
 | []=>rfl
 | _::ds=>pZ ds
theorem zh (ds:List D) (Γ:G):cC Γ ((ds.map Bo.d).map some)=ds.map fun d=>some (Sl.fz d):=by
 unfold cC;rw[List.map_map,List.map_map];rfl
theorem sN {cs:G} {j:Nat}:∀ ds:List D,newD (((ds.map Bo.d).map some).map aS) cs j=none
 | []=>by cases cs <;> rfl
 | _::ds=>by
  cases cs with
  | nil=>rfl
  | cons c cs=>exact sN (cs:=cs) ds
def D2 (Γa:G) (k:D→Prop):Prop:=match Γa with
 | some (.ln d)::_=>k d
 | _=>False
def HB:D→Bool
 | .non=>true
 | _=>false
def vU (C:Addr) (n:Nat) (S:S3) (t3:TA3) (Γ:G) (Q:RV→G→Prop):Prop:=t3 Γ fun ds Γ1=>ds.length + 1=n∧
 S (some (.ln (.ins C [] []))::ds.map fun d=>some (.fz d)) fun r Γa=>r=.fz .non∧D2 Γa fun d=>Q (.fr d) Γ1
theorem va {C:Addr} {n:Nat} {S:S3} {E:XK} {t:TA} {t3:TA3} (h:ED K t t3):Ref K (sj C (sp3 K n S) [] E t) (vU C n S t3):=by
 intro B F σ H Γ Q QQ e q k
 refine h B F σ H Γ _ _ e q fun vs H1 ⟨F1,Γ1,ds,s1,e1,r1,hn,q1⟩=>?_
 intro y dy hy hdy ne
 rw[List.append_nil]
 have a1:=e1.alloc hdy (.own y)
 have hy':(upd H1 dy (.own y)) y=none:=by rw[ak (Ne.symm ne)];exact hy
 have e2:En K B F1 σ (upd (upd H1 dy (.own y)) y (.ins C dy [])) Γ1:=a1.alloc hy' _
 have rv:dC K B F1 σ (upd (upd H1 dy (.own y)) y (.ins C dy [])) Γ1 (.ref y) (.fr (.ins C [] [])):=⟨y,rfl,a1.nof hy',⟨dy,[],aD,rfl,rfl⟩,e1.dom _ hy,a1.pO hy'⟩
 have ep:=e2.push rv
 have hl:σ.length=Γ1.length:=e1.len
 have rb:cu K F1 (σ++[some (V.ref y)]) (Bo.v Γ1.length::ds.map Bo.d) (.ref y::vs):=⟨_,_,rfl,by rw[← hl];exact dY,(cu.ds r1).push⟩
 have nd:(cn (Bo.v Γ1.length::ds.map Bo.d)).Nodup:=by
  show (Γ1.length::cn (ds.map Bo.d)).Nodup
  rw[pZ];simp
 have eG:cC (Γ1++[some (Sl.ow (.ins C [] []))]) ((Bo.v Γ1.length::ds.map Bo.d).map some)=some (.ln (.ins C [] []))::ds.map fun d=>some (.fz d):=by
  rw[List.map_cons,← zh ds (Γ1++[some (Sl.ow (.ins C [] []))])]
  show (some (Bo.v Γ1.length)).bind (ko _)::_=_
  congr 1
  show ej (Γ1++[some (Sl.ow (.ins C [] []))])[Γ1.length]?=_
  rw[dY];rfl
 have len:(V.ref y::vs).length=n:=by rw[← hn,List.length_cons,r1.length]
 refine⟨len,F1,_,_,_,ep.args rb nd,jZ,by rw[eG];exact q1,fun r Γa q2 v H' F' e3 rv'=>?_⟩
 obtain⟨rfl,q2⟩:=q2
 obtain⟨sm,eb,_⟩:=ep.called e3 rv'
 have ev:v=.non:=rv'
 cases Γa with
 | nil=>exact q2.elim
 | cons s Γr=>
  cases s with
  | none=>exact q2.elim
  | some s=>
   cases s with
   | fz d=>exact q2.elim
   | ow d=>exact q2.elim
   | ln d=>
    have q2:Q (.fr d) Γ1:=q2
    have eq:aT (((Bo.v Γ1.length::ds.map Bo.d).map some).map aS) (Γ1++[some (Sl.ow (.ins C [] []))]) (some (.ln d)::Γr)=Γ1++[some (Sl.ow d)]:=by
     refine List.ext_getElem? fun j=>?_
     rw[bM]
     show Option.map (fM (if Γ1.length=j then some d else newD (((ds.map Bo.d).map some).map aS) Γr j)) _=_
     by_cases hj:Γ1.length=j
     ·subst hj
      rw[if_pos rfl,dY,dY];rfl
     ·rw[if_neg hj,sN]
      have:(Γ1++[some (Sl.ow d)])[j]?=(Γ1++[some (Sl.ow (.ins C [] []))])[j]?:=by
       rcases Nat.lt_or_ge j Γ1.length with z | z
       ·rw[List.getElem?_append_left z,List.getElem?_append_left z]
       ·rw[List.getElem?_eq_none (by simp;omega),List.getElem?_eq_none (by simp;omega)]
      rw[this]
      cases (Γ1++[some (Sl.ow (.ins C [] []))])[j]? with
      | none=>rfl
      | some s=>cases s with
       | none=>rfl
       | some s=>cases s <;> rfl
    rw[eq] at eb
    obtain⟨e5,rv5⟩:=eb.pop
    exact⟨ev,k _ _ ⟨F',Γ1,.fr d,s1.trans sm,e5,rv5,q2⟩⟩
end
end L3
namespace L3
open PySem L2
section
variable {K:PySem.W.Frag} {B:Bs} {F:Hp} {σ:L2.St} {H:Hp} {Γ:G} {X:Cx} {C f:Addr} {fd:FuncData} {ps:List Str} {x m:Str} {k n:Nat} {S:S3} {p pos:Pos} {e:Expr} {es:List Expr} {t:TA} {t3:TA3} {te:TE} {e3:TE3}
theorem iO (M:Mk X.K C f) (F:bK X.prog X.w X.K X.mg X.base CX0 k f fd ps (sp3 K n S)) (hr:cJ (k + 1) X.A) (hg:Gl X x) (hm:X.mg x=some (.ref C)) (hb:Binds X.K fd ps [])
  (ha:P3A K X (e::es) t t3) (hdb:(x == ("__debug__":Str))=false:=by decide) (he:starEach (e::es) X.env=(false,eval e X.env)::starEach es X.env:=by rfl) (hpl:(backTo pos (starEach es X.env)).any (·.1)=false:=by rfl) :
  P3 K X (.Call (.Name x p) (e::es) [] pos) (sj C (sp3 K n S) [] E0 t) (vU C n S t3):=⟨x9 M F hr hg hm hb .nil m_ ha.pe hdb he hpl,va ha.rf⟩
def frR (r:RV) (k:D→Prop):Prop:=match r with
 | .fr d=>k d
 | _=>False
def rO (i:Nat) (S:S3) (e3:TE3) (Γ:G) (Q:RV→G→Prop):Prop:=(∃ d,Gat Γ i=some d)∧e3 Γ fun r Γ1=>frR r fun d=>S [ko Γ1 (.v i),some (.ln d)] fun r' Γa=>Q r' (aT [some i,none] Γ1 Γa)
theorem tY {i:Nat} {E:XK} (h:Ref K te e3):Ref K (lH (sp3 K 2 S) [] E (gg (cY i) (gg te kL))) (rO i S e3):=by
 intro B F σ H Γ Q QQ en q k
 obtain⟨⟨d0,hg⟩,q⟩:=q
 obtain⟨v,hv,_⟩:=en.get hg
 refine⟨v,hv,?_⟩
 refine h B F σ H Γ _ _ en q fun v2 H1 ⟨F1,Γ1,r,s1,e1,rv,q1⟩=>?_
 show sp3 K 2 S ([v,v2]++[]) H1 QQ E
 rw[List.append_nil]
 cases r with
 | fz d=>exact q1.elim
 | two _ _=>exact q1.elim
 | rws _=>exact q1.elim
 | fr d=>
  have q1:S [ko Γ1 (.v i),some (.ln d)] fun r' Γa=>Q r' (aT [some i,none] Γ1 Γa):=q1
  have rv0:=rv
  obtain⟨y,rfl,_⟩:=rv0
  have ep:=e1.push rv
  have hl:σ.length=Γ1.length:=e1.len
  have il:i < Γ1.length:=by rw[← hl];exact(List.getElem?_eq_some_iff.mp hv).1
  have rb:cu K F1 (σ++[some (V.ref y)]) [Bo.v i,Bo.v Γ1.length] [v,.ref y]:=⟨_,_,rfl,bS hv,_,_,rfl,by rw[← hl];exact dY,rfl⟩
  have nd:(cn [Bo.v i,Bo.v Γ1.length]).Nodup:=by
   show [i,Γ1.length].Nodup
   simp;omega
  have eG:cC (Γ1++[some (Sl.ow d)]) ([Bo.v i,Bo.v Γ1.length].map some)=[ko Γ1 (.v i),some (.ln d)]:=by
   show [ej (Γ1++[some (Sl.ow d)])[i]?,ej (Γ1++[some (Sl.ow d)])[Γ1.length]?]=_
   rw[dY,List.getElem?_append_left il];rfl
  refine⟨rfl,F1,_,_,_,ep.args rb nd,jZ,by rw[eG];exact q1,fun r Γa q2 v' H' F' e4 rv'=>?_⟩
  obtain⟨sm,eb,rb'⟩:=ep.called e4 rv'
  have l2:Γa.length=2:=by have:=e4.len;rw[← this];rfl
  have mem:(1,y)∈ownOf (Γ1++[some (Sl.ow d)]) (σ++[some (V.ref y)]) ([Bo.v i,Bo.v Γ1.length].map some):=gk.mpr ⟨Γ1.length,d,rfl,.inl dY,by rw[← hl];exact dY⟩
  obtain⟨_,d',hd'⟩:=e4.par 1 y mem
  obtain⟨a,rfl⟩:∃ a,Γa=[a,some (.ln d')]:=by
   match Γa,l2,hd' with
   | [a,b],_,hd'=>
    have:b=some (.ln d'):=by simpa using hd'
    exact⟨a,by rw[this]⟩
  have eq:aT (([Bo.v i,Bo.v Γ1.length].map some).map aS) (Γ1++[some (Sl.ow d)]) [a,some (.ln d')]=aT [some i,none] Γ1 [a,some (.ln d')]++[some (Sl.ow d')]:=by
   have bl:(aT [some i,none] Γ1 [a,some (.ln d')]).length=Γ1.length:=by unfold aT;simp
   refine List.ext_getElem? fun j=>?_
   rw[bM]
   rcases Nat.lt_trichotomy j Γ1.length with z | z | z
   ·rw[List.getElem?_append_left z,List.getElem?_append_left (by rw[bl];exact z),bM]
    congr 2
    show newD [some i,some Γ1.length] [a,some (.ln d')] j=newD [some i,none] [a,some (.ln d')] j
    simp only[newD]
    have nj:¬ Γ1.length=j:=by omega
    simp only[nj,if_false]
   ·subst z
    rw[dY,← bl,dY]
    show Option.map (fM (newD [some i,some _] [a,some (.ln d')] _)) _=_
    simp only[newD]
    have nj:¬ i=Γ1.length:=by omega
    rw[bl]
    simp only[nj,if_false,if_true]
    rfl
   ·rw[List.getElem?_eq_none (by simp;omega),List.getElem?_eq_none (by rw[List.length_append,bl];simp;omega)]
    rfl
  rw[eq] at eb rb'
  obtain⟨e5,_⟩:=eb.pop
  exact k v' H' ⟨F',_,r,s1.trans sm,e5,dC.pop rb' e5.len,q2⟩
theorem lX {o a:Expr} {i:Nat} (hK:X.K=K) (F:bK X.prog X.w X.K X.mg X.base CX0 k f fd ps (sp3 K 2 S)) (hr:cJ k X.A) (hg:Gl X x) (hm:X.mg x=some (.ref f)) (hk:PySem.W.keepIn X.K (.ref f)=true) (hb:Binds X.K fd ps [])
  (ho:P3B K X o (cY i) (bor i)) (ha:P3 K X a te e3) (hdb:(x == ("__debug__":Str))=false:=by decide) (he:starEach [o,a] X.env=(false,eval o X.env)::starEach [a] X.env:=by rfl) (he2:starEach [a] X.env=(false,eval a X.env)::starEach [] X.env:=by rfl) (hpl:(backTo pos (starEach [a] X.env)).any (·.1)=false:=by rfl) :
  P3 K X (.Call (.Name x p) [o,a] [] pos) (lH (sp3 K 2 S) [] E0 (gg (cY i) (gg te kL))) (rO i S e3):=
 ⟨oh F hr hg hm hk hb .nil m_ (eW ho.pe (eW ha.pe jg he2) he) hdb he hpl,tY ha.rf⟩
end
end L3
namespace L3
open PySem L2
section
variable {K:PySem.W.Frag} {B:Bs} {F:Hp} {σ:L2.St} {H:Hp} {Γ:G} {X:Cx}
def signs (z:Str):List D:=z.cps.toList.map fun c=>D.str (sgn c)
def oS (d:D) (k:Str→Prop):Prop:=match d with
 | .str z=>k z
 | _=>False
def asc (z:Str):Bool:=z.cps.all (· < 128)
def iS3 (a3:TE3) (Γ:G) (Q:List D→G→Prop):Prop:=a3 Γ fun r Γ1=>oS r.d fun z=>asc z=true∧Q (signs z) Γ1
def C2 (lo c:Int) (n:Nat):List D:=(List.range n).map fun (k:Nat)=>D.int (lo + (k:Int) * c)
def FQ (t3:TA3) (Γ:G) (Q:List D→G→Prop):Prop:=t3 Γ fun ds Γ1=>∃ i j:Int,ds=[.int i,.int j,.int (-1)]∧(-1000000≤i∧i≤1000000∧-1000000≤j∧j≤1000000)∧Q (C2 i (-1) (i - j).toNat) Γ1
def FP (t3:TA3) (Γ:G) (Q:List D→G→Prop):Prop:=t3 Γ fun ds Γ1=>∃ j:Int,ds=[.int j]∧(0≤j∧j < 2 ^ 62)∧Q (C2 (j - 1) (-1) j.toNat) Γ1
def FO (t3:TA3) (Γ:G) (Q:List D→G→Prop):Prop:=t3 Γ fun ds Γ1=>∃ z ys,ds=[.str z,.tup ys]∧asc z=true∧z.cps.size≤ys.length∧Q (tM (signs z) ys) Γ1
def tgP (i j k:Nat) (d:D) (Γ:G) (Q:G→Prop):Prop:=∃ x y z,d=.tup [x,.tup [y,z]]∧bc Γ i∧bc (Γ.set i (some (.fz x))) j∧bc ((Γ.set i (some (.fz x))).set j (some (.fz y))) k∧Q (((Γ.set i (some (.fz x))).set j (some (.fz y))).set k (some (.fz z)))
end
end L3
namespace L3
open PySem L2
section
variable {K:PySem.W.Frag} {B:Bs} {F:Hp} {σ:L2.St} {H:Hp} {Γ:G} {X:Cx} {a b o e f:Expr} {ta tb te tf to:TE} {a3 b3:TB3} {e3 f3:TE3} {pos apos cpos:Pos}
def DA (x y:D) (Γ:G) (Q:RV→G→Prop):Prop:=match x,y with
 | .str z,.int n=>(n=0∨n=1)∧z.length≤sizeLine∧Q (.fz (.str (if n=0 then Str.empty else z))) Γ
 | _,_=>False
def Ew (x y:D) (Γ:G) (Q:RV→G→Prop):Prop:=match x,y with
 | .tup xs,.tup ys=>(xs≠[]∧ys≠[]∧xs.length + ys.length≤sizeLine)∧Q (.fz (.tup (xs++ys))) Γ
 | _,_=>False
def oSo (d:Option D) (k:Str→Prop):Prop:=match d with
 | some (.str z)=>k z
 | _=>False
def Fm (a3:TB3) (l3 h3:TO3) (Γ:G) (Q:RV→G→Prop):Prop:=a3 Γ fun x Γ1=>l3 Γ1 fun lo Γ2=>h3 Γ2 fun hi Γ3=>oSo (x.at Γ3) fun z=>z.length≤sizeLine∧Q (.fz (.str (Txt.slice z lo hi))) Γ3
def Ef (z y:Str):Nat:=(Builtin.Str.occurrences z y 0 z.length (z.length + 1)).length
def F_ (o3:TE3) (e3:TE3) (Γ:G) (Q:RV→G→Prop):Prop:=o3 Γ fun x Γ1=>oS x.d fun z=>e3 Γ1 fun r Γ2=>oS r.d fun y=>Q (.fz (.int (Ef z y))) Γ2
def dS:D→Bool
 | .str _=>true
 | _=>false
def Di (i:Nat) (Γ:G) (Q:RV→G→Prop):Prop:=mL (ck Γ i) (fun xs=>m1 (xs[xs.length - 1]?) (fun d=>Q (.fz d) (putD Γ i (.lst xs.dropLast))) ⟨⟩) ⟨⟩
theorem vW {o:Option (List D)} {k:List D→Prop} {t:Tag k}:mL o k t↔∃ d,o=some d∧k d:=by
 cases o with
 | none=>exact⟨fun h=>h.elim,fun ⟨_,h,_⟩=>by cases h⟩
 | some d=>exact⟨fun h=>⟨d,rfl,h⟩,fun ⟨_,h,q⟩=>by cases h;exact q⟩
theorem av.dropLast {xs:List D} {vs:List V} (r:av K F xs vs):av K F xs.dropLast vs.dropLast:=by
 rw[List.dropLast_eq_take,List.dropLast_eq_take,← r.length];exact r.take _
theorem vE (i:Nat) {x:Str} {px:Pos} (hK:X.K=K) (hx:P3B K X (.Name x px) (cY i) (bor i)) (hbase:attributeBase (.Name x px) "pop" X.env (eval (.Name x px) X.env)=eval (.Name x px) X.env:=by rfl) (hline:(apos.endLine == cpos.line)=true:=by rfl) :
  P3 K X (.Call (.Attribute (.Name x px) "pop" apos) [] [] cpos) (tR K "list" C9 (cY i)) (Di i):=
 ⟨by subst hK;exact qP PySem.F.plainAttrs_list PySem.F.slot_list_pop PySem.F.type_list_pop Bx hx.pe hbase hline,fun B F σ H Γ Q QQ e q k=>by
  obtain⟨xs,hx,q⟩:=vW.mp q
  obtain⟨d,hd,q⟩:=dj.mp q
  obtain⟨p,vs,a0,b0,c0⟩:=e.ck hx
  obtain⟨v,hv,rv⟩:=c0.get hd
  exact⟨_,a0,gx b0,p,vs,v,rfl,rfl,b0,by rw[c0.length];exact hv,k _ _ ⟨F,_,.fz d,aE.refl F,e.mut hx a0 c0.dropLast,rv,q⟩⟩⟩
def zB (i:Nat) (Γ:G) (Q:RV→G→Prop):Prop:=mL (ck Γ i) (fun xs=>m1 (xs[0]?) (fun d=>Q (.fz d) (putD Γ i (.lst (xs.eraseIdx 0)))) ⟨⟩) ⟨⟩
theorem yf (i:Nat) {x:Str} {px p0:Pos} {j0:Nat} (hK:X.K=K) (hx:P3B K X (.Name x px) (cY i) (bor i)) (hbase:attributeBase (.Name x px) "pop" X.env (eval (.Name x px) X.env)=eval (.Name x px) X.env:=by rfl)
  (hfew:((backTo cpos (starEach [.Constant (.int 0) j0 p0] X.env)).all (fun x=>!x.1) && (backToKw cpos (keywordEach [] X.env)).all (fun x=>x.1.isSome)
   && decide (([.Constant (.int 0) j0 p0]:List Expr).length + ([]:List Keyword).length + (if ([]:List Keyword).isEmpty then 0 else 1) < 30))=true:=by rfl)
  (hline:(apos.endLine == cpos.line)=true:=by rfl) (hs:starEach [.Constant (.int 0) j0 p0] X.env=(false,eval (.Constant (.int 0) j0 p0) X.env)::starEach [] X.env:=by rfl) (hplain:(backTo cpos (starEach [] X.env)).any (·.1)=false:=by rfl) :
  P3 K X (.Call (.Attribute (.Name x px) "pop" apos) [.Constant (.int 0) j0 p0] [] cpos) (tBM K "list" vg (cY i) (gg (tC (.int 0)) kL)) (zB i):=
 ⟨by subst hK;exact sH PySem.F.plainAttrs_list PySem.F.slot_list_pop PySem.F.type_list_pop vR hx.pe (eW og jg hs) hbase hfew hline hs hplain,fun B F σ H Γ Q QQ e q k=>by
  obtain⟨xs,hx,q⟩:=vW.mp q
  obtain⟨d,hd,q⟩:=dj.mp q
  obtain⟨p,vs,a0,b0,c0⟩:=e.ck hx
  obtain⟨v,hv,rv⟩:=c0.get hd
  have h0:0 < vs.length:=(List.getElem?_eq_some_iff.mp hv).1
  have er:av K F (xs.eraseIdx 0) (vs.eraseIdx 0):=by
   cases xs with
   | nil=>cases hd
   | cons x xs=>obtain⟨v',ws,rfl,_,r3⟩:=c0;exact r3
  exact⟨_,a0,gx b0,p,vs,0,0,v,rfl,rfl,b0,by decide,by decide,by unfold seqIndex?;simp [h0],hv,k _ _ ⟨F,_,.fz d,aE.refl F,e.mut hx a0 er,rv,q⟩⟩⟩
def DL (i:Nat) (k3 e3:TE3) (Γ:G) (Q:RV→G→Prop):Prop:=(∃ xs,ck Γ i=some xs)∧k3 Γ fun rk Γ1=>e3 Γ1 fun r Γ2=>mI (some rk.d) (fun k=>mL (ck Γ2 i) (fun xs=>(0≤k∧k≤(xs.length:Int)∧xs.length < sizeLine)∧Q (.fz .non) (putD Γ2 i (.lst (xs.take k.toNat++r.d::xs.drop k.toNat)))) ⟨⟩) ⟨⟩
theorem DF {o:Option D} {k:Int→Prop} {t:Tag k}:mI o k t→∃ d,o=some (.int d)∧k d:=by
 intro h
 cases o with
 | none=>exact h.elim
 | some d=>cases d <;> first | exact h.elim | exact⟨_,rfl,h⟩
theorem nc (i:Nat) {x:Str} {px:Pos} {k3:TE3} {tk:TE} {kx:Expr} (hK:X.K=K) (hx:P3B K X (.Name x px) (cY i) (bor i)) (hk:P3 K X kx tk k3) (he:P3 K X e te e3) (hbase:attributeBase (.Name x px) "insert" X.env (eval (.Name x px) X.env)=eval (.Name x px) X.env:=by rfl)
  (hfew:((backTo cpos (starEach [kx,e] X.env)).all (fun x=>!x.1) && (backToKw cpos (keywordEach [] X.env)).all (fun x=>x.1.isSome)
   && decide ([kx,e].length + ([]:List Keyword).length + (if ([]:List Keyword).isEmpty then 0 else 1) < 30))=true:=by rfl)
  (hline:(apos.endLine == cpos.line)=true:=by rfl) (hs:starEach [kx,e] X.env=(false,eval kx X.env)::starEach [e] X.env:=by rfl) (hs2:starEach [e] X.env=(false,eval e X.env)::starEach [] X.env:=by rfl) (hplain:(backTo cpos (starEach [e] X.env)).any (·.1)=false:=by rfl) :
  P3 K X (.Call (.Attribute (.Name x px) "insert" apos) [kx,e] [] cpos) (tBM K "list" sy (cY i) (gg tk (gg te kL))) (DL i k3 e3):=
 ⟨by subst hK;exact sH PySem.F.plainAttrs_list PySem.F.slot_list_insert PySem.F.type_list_insert ub hx.pe (eW hk.pe (eW he.pe jg hs2) hs) hbase hfew hline hs hplain,fun B F σ H Γ Q QQ en q k=>by
  obtain⟨⟨xs0,h0⟩,q⟩:=q
  obtain⟨p,vs0,a0,b0,_⟩:=en.ck h0
  refine⟨_,a0,gx b0,hk.rf B F σ H Γ _ _ en q fun vk H1 ⟨F1,Γ1,rk,s1,e1,rv1,q1⟩=>?_⟩
  obtain⟨F2,s2,e2,rp1⟩:=e1.frozen rv1
  refine he.rf B F2 σ H1 Γ1 _ _ e2 q1 fun v H' ⟨F3,Γ3,r,s3,e3,rv,q3⟩=>?_
  obtain⟨F4,s4,e4,rp⟩:=e3.frozen rv
  obtain⟨kk,hkk,q3⟩:=DF q3
  have hkk:rk.d=.int kk:=Option.some.inj hkk
  rw[hkk] at rp1
  cases rp1
  obtain⟨xs,hx,⟨g1,g2,g3⟩,q3⟩:=vW.mp q3
  obtain⟨p',vs,a,b,c⟩:=e4.ck hx
  rw[a0] at a;cases a
  refine⟨p,vs,kk,v,rfl,rfl,b,g1,by rw[c.length];exact g2,by rw[c.length];exact g3,k _ _ ⟨F4,_,.fz .non,s1.trans (s2.trans (s3.trans s4)),e4.mut hx a0 ((c.take _).append (show av K F4 (r.d::xs.drop kk.toNat) (v::vs.drop kk.toNat) from ⟨v,_,rfl,rp,c.drop _⟩)),rfl,q3⟩⟩⟩
end
end L3
namespace L3
open PySem L2
mutual
def dt:D→PyData
 | .non=>.none
 | .bl b=>.bool b
 | .int i=>.int i
 | .str x=>.str x
 | .lst xs=>.list (dtL xs)
 | .tup xs=>.tuple (dtL xs)
 | .dct=>.dict []
 | .dcs k i=>.dict [(.str k,.int i)]
 | _=>.none
def dtL:List D→List PyData
 | []=>[]
 | x::xs=>dt x::dtL xs
end
inductive Sh:Nat→Nat→D→Prop where
 | non:Sh 100 1 .non
 | bl (b:Bool):Sh 100 1 (.bl b)
 | int {i:Int} (h:i.natAbs < 10 ^ 60):Sh 100 1 (.int i)
 | str {x:Str} {n:Nat} (h:(PyData.shown (.str x)).length≤n):Sh n 1 (.str x)
 | dct:Sh 100 1 .dct
 | dcs {k:Str} {i:Int} {n:Nat} (h:i.natAbs < 10 ^ 60) (hn:(PyData.shown (.dict [(.str k,.int i)])).length≤n):Sh n 1 (.dcs k i)
 | lst {n k l:Nat} {xs:List D} (h:∀ x∈xs,Sh n k x) (hl:xs.length≤l):Sh (l * (n + 2) + 3) (k + 1) (.lst xs)
 | tup {n k l:Nat} {xs:List D} (h:∀ x∈xs,Sh n k x) (hl:xs.length≤l):Sh (l * (n + 2) + 3) (k + 1) (.tup xs)
 | up {n k n' k':Nat} {d:D} (h:Sh n k d) (h1:n≤n') (h2:k≤k'):Sh n' k' d
structure ShD (n k:Nat) (d:D):Prop where
 sh:(dt d).showable=true
 dp:(dt d).depth≤k
 ln:(dt d).shown.length≤n
 dt:∀ {K:PySem.W.Frag} {F H:Hp} {v:V},aE F H→Rep K F d v→Dt K H v (dt d)
theorem yD {i:Int} (h:i.natAbs < 10 ^ 60):(PyData.shown (.int i)).length≤100:=by
 have e:=int_text_length_le10 (k:=60) (by decide) h
 show (Str.ofString (toString i)).length≤100
 rw[ofString_length]
 omega
theorem rz {i:Int} (h:i.natAbs < 10 ^ 60):PyData.showable (.int i)=true:=by
 show decide (i.natAbs.log2 < 1920)=true
 rw[decide_eq_true_eq]
 by_cases h0:i.natAbs=0
 ·rw[h0];decide
 ·rw[Nat.log2_lt h0]
  exact Nat.lt_of_lt_of_le (show i.natAbs < 2 ^ 200 from Nat.lt_trans h (by decide)) (Nat.pow_le_pow_right (by decide) (by decide))
theorem shL {n k:Nat}:∀ {xs:List D},(∀ x∈xs,ShD n k x)→PyData.showableAll (dtL xs)=true∧PyData.depthAll (dtL xs)≤k∧((PyData.shownAll (dtL xs)).map (·.length)).sum≤xs.length * n∧(PyData.shownAll (dtL xs)).length=xs.length∧
  ∀ {K:PySem.W.Frag} {F H:Hp} {vs:List V},aE F H→av K F xs vs→cx K H vs (dtL xs)
 | [],_=>⟨rfl,by simp [dtL,PyData.depthAll],by simp [dtL,PyData.shownAll],rfl,fun _ r=>by cases r;exact .nil⟩
 | x::xs,h=>by
  obtain⟨h1,h3,h4,h5,h6⟩:=shL (xs:=xs) fun y hy=>h y (List.mem_cons_of_mem _ hy)
  have e:=h x List.mem_cons_self
  have e4:=e.ln
  have e3:=e.dp
  refine⟨?_,?_,?_,?_,fun s r=>?_⟩
  ·simp only[dtL,PyData.showableAll,e.sh,h1,Bool.and_self]
  ·simp only[dtL,PyData.depthAll];omega
  ·simp only[dtL,PyData.shownAll,List.map_cons,List.sum_cons,List.length_cons,Nat.add_mul,Nat.one_mul];omega
  ·simp only[dtL,PyData.shownAll,List.length_cons,h5]
  ·obtain⟨v,ws,rfl,r1,r2⟩:=r
   exact .cons (e.dt s r1) (h6 s r2)
theorem Sh.spec {n k:Nat} {d:D} (h:Sh n k d):ShD n k d:=by
 induction h with
 | non=>exact⟨rfl,by simp [dt,PyData.depth],by decide,fun _ r=>by cases r;exact .non⟩
 | bl b=>exact⟨rfl,by simp [dt,PyData.depth],by cases b <;> decide,fun _ r=>by cases r;exact .bl b⟩
 | @int i h=>exact⟨rz h,by simp [dt,PyData.depth],yD h,fun _ r=>by cases r;exact .int i⟩
 | @str x n h=>exact⟨rfl,by simp [dt,PyData.depth],h,fun _ r=>by cases r;exact .str x⟩
 | @lst n k l xs h hl ih=>
  obtain⟨h1,h3,h4,h5,h6⟩:=shL ih
  refine⟨by simp only[dt,PyData.showable,h1],by simp only[dt,PyData.depth];omega,?_,fun s r=>?_⟩
  ·have e:=listText_len_le (PyData.shownAll (dtL xs))
   have e2:(PyData.shown (dt (.lst xs)))=listText (PyData.shownAll (dtL xs)):=by simp only[dt,PyData.shown]
   rw[e2]
   have e3:xs.length * n≤l * n:=Nat.mul_le_mul_right _ hl
   have e4:l * (n + 2)=l * n + l * 2:=Nat.mul_add ..
   omega
  ·obtain⟨p,vs,rfl,g,r⟩:=r
   exact .lst (SqL.of (s _ _ g)) (h6 s r)
 | @tup n k l xs h hl ih=>
  obtain⟨h1,h3,h4,h5,h6⟩:=shL ih
  refine⟨by simp only[dt,PyData.showable,h1],by simp only[dt,PyData.depth];omega,?_,fun s r=>?_⟩
  ·have e:=tupleText_len_le (PyData.shownAll (dtL xs))
   have e2:(PyData.shown (dt (.tup xs)))=tupleText (PyData.shownAll (dtL xs)):=by simp only[dt,PyData.shown]
   rw[e2]
   have e3:xs.length * n≤l * n:=Nat.mul_le_mul_right _ hl
   have e4:l * (n + 2)=l * n + l * 2:=Nat.mul_add ..
   omega
  ·obtain⟨p,vs,rfl,g,r⟩:=r
   exact .tup (.inl (.inl (s _ _ g))) (h6 s r)
 | dct=>exact⟨rfl,by simp [dt,PyData.depth,PyData.depthKv],by decide,fun s r=>by obtain⟨p,rfl,h⟩:=r;exact .dct (s _ _ h)⟩
 | @dcs k i n h hn=>exact⟨by have:=rz h;simp only[dt,PyData.showable,PyData.showableKv] at this ⊢;simpa using this,by simp [dt,PyData.depth,PyData.depthKv],hn,fun s r=>by obtain⟨p,rfl,h⟩:=r;exact .dcs k i (s _ _ h)⟩
 | up h h1 h2 ih=>exact⟨ih.sh,Nat.le_trans ih.dp h2,Nat.le_trans ih.ln h1,ih.dt⟩
def xH:D→Bool
 | .lst _=>true
 | .tup _=>true
 | _=>false
def shw (d:D):Str:=(dt d).shown
def C6 (ds:List D) (Γ:G) (Q:RV→G→Prop):Prop:=match ds with
 | [d]=>(xH d=true∧Sh 10000000 20 d)∧Q (.fz (.str (shw d))) Γ
 | _=>False
section
variable {K:PySem.W.Frag} {B:Bs} {F:Hp} {σ:L2.St} {H:Hp} {Γ:G} {X:Cx}
theorem Sh.dtB {n k:Nat} {d:D} (h:Sh n k d) (hs:xH d=true) {v:V} (s:aE F H) (r:fJ K F H d v):∃ a,v=.ref a∧Dt K H v (dt d):=by
 cases d with
 | lst xs=>
  obtain⟨p,vs,rfl,g,r⟩:=r
  refine⟨p,rfl,?_⟩
  have go:∀ {n k:Nat} {d:D},Sh n k d→∀ xs,d=.lst xs→∀ x∈xs,∃ n k,Sh n k x:=by
   intro n k d h
   induction h with
   | lst h hl ih=>intro xs e x hx;cases e;exact⟨_,_,h x hx⟩
   | up h h1 h2 ih=>exact ih
   | _=>intro xs e;cases e
  have all:∀ {ys:List D} {ws:List V},(∀ x∈ys,∃ n k,Sh n k x)→av K F ys ws→cx K H ws (dtL ys):=by
   intro ys
   induction ys with
   | nil=>intro ws _ r;cases r;exact .nil
   | cons y ys ih=>
    intro ws hh r
    obtain⟨w,ws',rfl,r1,r2⟩:=r
    obtain⟨n',k',hy⟩:=hh y List.mem_cons_self
    exact .cons (hy.spec.dt s r1) (ih (fun z hz=>hh z (List.mem_cons_of_mem _ hz)) r2)
  exact .lst (SqL.of g) (all (go h xs rfl) r)
 | tup xs=>
  have r':Rep K F (.tup xs) v:=r
  have q:=h.spec.dt s r'
  obtain⟨p,vs,rfl,_⟩:=r'
  exact⟨p,rfl,q⟩
 | _=>cases hs
end
end L3
namespace L3
open PySem L2
section
variable {K:PySem.W.Frag} {B:Bs} {F:Hp} {σ:L2.St} {H:Hp} {Γ:G} {X:Cx} {a o e f:Expr} {ta te tf:TE} {a3:TB3} {e3 f3:TE3} {pos apos cpos:Pos}
def wG (C0:Addr) (f:Str) (x:D) (Γ:G) (Q:RV→G→Prop):Prop:=match x with
 | .ins C ns xs=>C=C0∧m1 ((ns.zip xs).lookup f) (fun d=>Q (.fz d) Γ) ⟨⟩
 | _=>False
theorem jM {f:Str} {C0:Addr} (hK:X.K=K) (ha:P3B K X a ta a3) (hC:Cls K C0) (hn:eg K C0 f) (hb:attributeBase a f X.env (eval a X.env)=eval a X.env:=by rfl) :
  P3 K X (.Attribute a f pos) (CT K ta f) (uO (wG C0 f) a3):=⟨by subst hK;exact Bb ha.pe hb,u7 (r:=fun x H1 Q=>∃ a C dx fs v,x=.ref a∧H1 a=some (.ins C dx fs)∧Cls K C∧eg K C f∧fs.lookup f=some v∧Q v H1) (ta:=ta) (by
 intro B F σ H Γ x dx Q QQ e rx q k
 unfold wG at q
 split at q
 ·obtain⟨rfl,q⟩:=q
  obtain⟨d,hd,q⟩:=dj.mp q
  obtain⟨p,dx,gs,rfl,h1,h2,h3⟩:=rx
  obtain⟨v,hv,r⟩:=av.lookup h2 h3 hd
  exact⟨p,_,dx,gs,v,rfl,h1,hC,hn,hv,k _ _ (gj e r q)⟩
 ·exact q.elim) ha.rf⟩
def kt (zs:List Str):D:=.ktup (zs.map .str)
structure HU (K:PySem.W.Frag) (mg:Str→Option Value) (x:Str) (p:Addr) (zs:List Str):Prop where
 mg:mg x=some (.ref p)
 sq:∀ F:Hp,SqT K F p (zs.map V.str)
def New (H H' F:Hp):Prop:=∀ b o,H b=none→H' b=some o→F b=some o
def Lit (K:PySem.W.Frag) (te:TE) (d:D):Prop:=∀ (σ:L2.St) (H:Hp) (Q:VK),(∀ v H',aE H H'→(∀ F,New H H' F→Rep K F d v)→Q v H')→te σ H Q
def HR (K:PySem.W.Frag) (t:TA) (ds:List D):Prop:=∀ (σ:L2.St) (H:Hp) (Q:List V→Hp→Prop),(∀ vs H',aE H H'→vs.length=ds.length→(∀ F,New H H' F→av K F ds vs)→Q vs H')→t σ H Q
def Ee (i:Nat) (k1 k2:Str) (d1 d2 d0:D) (Γ:G) (Q:RV→G→Prop):Prop:=oSo (Gat Γ i) fun w=>Q (.fz (if w=k1 then d1 else if w=k2 then d2 else d0)) Γ
end
end L3
namespace L3
open PySem L2
section
variable {K:PySem.W.Frag} {B:Bs} {F:Hp} {σ:L2.St} {H:Hp} {Γ:G} {X:Cx} {e:Expr} {te:TE} {e3:TE3} {pos:Pos}
def Gp (i:Nat) (e3:TE3) (D:E3) (Γ:G):Prop:=mI (Gat Γ i) (fun m=>e3 Γ fun r Γ1=>mI (some r.d) (fun n=>bc Γ1 i∧D.nx (Γ1.set i (some (.fz (.int (m + n)))))) ⟨⟩) ⟨⟩
end
end L3
namespace L3
open PySem L2
def oIt (o:Option (Addr×List Str×List D)) (k:Addr→List Str→List D→Prop) (_:Tag k):Prop:=oI o k
theorem vL {C:Addr} {ns:List Str} {xs:List D} {k:Addr→List Str→List D→Prop} {t:Tag k}:oIt (some (C,ns,xs)) k t=k C ns xs:=rfl
def oSt (o:D) (k:Str→Prop) (_:Tag k):Prop:=oS o k
theorem yo {z:Str} {k:Str→Prop} {t:Tag k}:oSt (.str z) k t=k z:=rfl
def Bq (o:Option D) (k:Str→Prop) (_:Tag k):Prop:=oSo o k
theorem vK {z:Str} {k:Str→Prop} {t:Tag k}:Bq (some (.str z)) k t=k z:=rfl
def zX (o:G) (k:D→Prop) (_:Tag k):Prop:=D2 o k
theorem yN {d:D} {Γ:G} {k:D→Prop} {t:Tag k}:zX (some (.ln d)::Γ) k t=k d:=rfl
def D4 (o:RV) (k:D→Prop) (_:Tag k):Prop:=frR o k
theorem Ce {d:D} {k:D→Prop} {t:Tag k}:D4 (.fr d) k t=k d:=rfl
section
variable {Γ:G} {Q:RV→G→Prop} {QI:List D→G→Prop} {C C0:Addr} {i n:Nat} {f:Str} {S:S3} {e3:TE3} {a3:TB3} {t3:TA3} {D1:E3} {k1 k2:Str} {d1 d2 d0:D} {l3 h3:TO3}
theorem xF:uW C0 i f e3 D1 Γ=(e3 Γ fun r Γ1=>oIt (mf Γ1 i) (fun C ns xs=>C=C0∧(f∉ns∧ns.length < 1000)∧D1.nx (putD Γ1 i (.ins C (ns++[f]) (xs++[r.d])))) ⟨⟩):=rfl
theorem DP:iS3 e3 Γ QI=(e3 Γ fun r Γ1=>oSt r.d (fun z=>asc z=true∧QI (signs z) Γ1) ⟨⟩):=rfl
theorem AE:Fm a3 l3 h3 Γ Q=(a3 Γ fun x Γ1=>l3 Γ1 fun lo Γ2=>h3 Γ2 fun hi Γ3=>Bq (x.at Γ3) (fun z=>z.length≤sizeLine∧Q (.fz (.str (Txt.slice z lo hi))) Γ3) ⟨⟩):=rfl
theorem Cn {o3:TE3}:F_ o3 e3 Γ Q=(o3 Γ fun x Γ1=>oSt x.d (fun z=>e3 Γ1 fun r Γ2=>oSt r.d (fun y=>Q (.fz (.int (Ef z y))) Γ2) ⟨⟩) ⟨⟩):=rfl
theorem yT:Ee i k1 k2 d1 d2 d0 Γ Q=Bq (Gat Γ i) (fun w=>Q (.fz (if w=k1 then d1 else if w=k2 then d2 else d0)) Γ) ⟨⟩:=rfl
end
end L3
namespace L3
open PySem L2
def bT (c:Bool) (p q:Prop) (_:Tag p) (_:Tag q):Prop:=match c with
 | true=>p
 | false=>q
theorem Ge {p q:Prop} {s:Tag p} {t:Tag q}:bT true p q s t=p:=rfl
theorem Gf {p q:Prop} {s:Tag p} {t:Tag q}:bT false p q s t=q:=rfl
theorem Aj {c:Bool} {p q:Prop} {s:Tag p} {t:Tag q} (h1:c=true→p) (h2:c=false→q):bT c p q s t:=by
 cases c with
 | true=>exact h1 rfl
 | false=>exact h2 rfl
section
variable {Γ:G} {Q:RV→G→Prop} {QB:Bo→G→Prop} {QT:Bool→G→Prop} {QA:List D→G→Prop} {QL:List Bo→G→Prop} {QO:Option Int→G→Prop} {QG:G→Prop} {i j:Nat} {is:List Nat} {D1:E3} {t u:TS3} {e3 f3:TE3} {a3 b3 c3:TB3} {A3 B3:TT3} {t3:TA3} {tb:fI} {d:D} {l3 h3 s3:TO3} {bb:jA} {ys:List D}
theorem DU:AH t u D1 Γ=t { D1 with nx:=u D1 } Γ:=rfl
theorem BZ:zE D1 Γ=D1.nx Γ:=rfl
theorem DT:xG i e3 D1 Γ=(e3 Γ fun r Γ1=>bc Γ1 i∧D1.nx (Γ1.set i (some r.sl))):=rfl
theorem zQ:C5 e3 D1 Γ=e3 Γ D1.rt:=rfl
theorem B4:tu e3 D1 Γ=(e3 Γ fun _ Γ1=>D1.nx Γ1):=rfl
theorem DS:tst e3 Γ QT=(e3 Γ fun x Γ1=>match x.d with | .bl k=>QT k Γ1 | _=>False):=rfl
theorem zU:bor i Γ QB=((∃ d,Gat Γ i=some d)∧QB (.v i) Γ):=rfl
theorem zV:bof e3 Γ QB=(e3 Γ fun x Γ1=>QB (.d x.d) Γ1):=rfl
theorem yE:z9 a3 tb Γ QL=(a3 Γ fun x Γ1=>tb Γ1 fun xs Γ2=>QL (x::xs) Γ2):=rfl
theorem BY:Bv Γ QL=QL [] Γ:=rfl
theorem wq:iG e3 t3 Γ QA=(e3 Γ fun x Γ1=>t3 Γ1 fun xs Γ2=>QA (x.d::xs) Γ2):=rfl
theorem zR:ua Γ QA=QA [] Γ:=rfl
theorem h_c:t3C d Γ Q=Q (.fz d) Γ:=rfl
theorem DZ:Cu A3 B3 Γ QT=(A3 Γ fun c Γ1=>bT c (B3 Γ1 QT) (QT false Γ1) ⟨⟩ ⟨⟩):=by
 show (A3 Γ fun c Γ1=>match c with | true=>B3 Γ1 QT | false=>QT false Γ1)=_
 congr 1
theorem FU:or3 A3 B3 Γ QT=(A3 Γ fun c Γ1=>bT c (QT true Γ1) (B3 Γ1 QT) ⟨⟩ ⟨⟩):=by
 show (A3 Γ fun c Γ1=>match c with | true=>QT true Γ1 | false=>B3 Γ1 QT)=_
 congr 1
theorem DV:Bt A3 Γ QT=(A3 Γ fun c Γ1=>QT (!c) Γ1):=rfl
theorem FV:if3 A3 e3 f3 Γ Q=(A3 Γ fun c Γ1=>bT c (e3 Γ1 Q) (f3 Γ1 Q) ⟨⟩ ⟨⟩):=by
 show (A3 Γ fun c Γ1=>match c with | true=>e3 Γ1 Q | false=>f3 Γ1 Q)=_
 congr 1
theorem zS:BC t3 Γ Q=(t3 Γ fun xs Γ1=>xs.length≤sizeLine∧Q (.fr (.lst xs)) Γ1):=rfl
theorem zP:uL t3 Γ Q=(t3 Γ fun xs Γ1=>xs.length≤sizeLine∧Q (.fz (.tup xs)) Γ1):=rfl
theorem DY:Ct i e3 Γ Q=((∃ xs,ck Γ i=some xs)∧e3 Γ fun r Γ1=>∃ xs,ck Γ1 i=some xs∧xs.length < sizeLine∧Q (.fz .non) (putD Γ1 i (.lst (xs++[r.d])))):=rfl
theorem BU:zx is e3 D1 Γ=(e3 Γ fun r Γ1=>∃ ds Γ',r.d=.tup ds∧gives Γ1 is ds=some Γ'∧frees Γ1 is ds∧D1.nx Γ'):=rfl
theorem BS:CU a3 Γ QO=(a3 Γ fun x Γ1=>∃ i,x.at Γ1=some (.int i)∧QO (some i) Γ1):=rfl
theorem BX:Dw Γ QO=QO none Γ:=rfl
abbrev hI (Iv:Nat→G→Prop) (k:Nat) (Γ:G) (_:Tag Iv):Prop:=Iv k Γ
def zH (xs:List D) (Γ1:G) (g3:TG3) (b3:TS3) (E1:E3) (_:Tag (g3,b3,E1)):Prop:=∃ Iv:Nat→G→Prop,Iv 0 Γ1∧(∀ k d Γ,xs[k]?=some d→Iv k Γ→g3 d Γ fun Γ'=>b3 { E1 with nx:=Iv (k + 1),ct:=Iv (k + 1),bk:=E1.nx } Γ')∧∀ Γ,Iv xs.length Γ→E1.nx Γ
theorem DX {i3:TI3} {g3:TG3} {b3:TS3} {t1:Tag (i3,g3,b3)} {t2:Tag D1}:D5 i3 g3 b3 D1 Γ t1 t2=(i3 Γ fun xs Γ1=>zH xs Γ1 g3 b3 D1 ⟨⟩):=rfl
theorem dk {xs:List D} {Γ1:G} {g3:TG3} {b3:TS3} {E1:E3} {t:Tag (g3,b3,E1)} (Iv:Nat→G→Prop) (h0:Iv 0 Γ1) (hs:∀ k d Γ,xs[k]?=some d→Iv k Γ→g3 d Γ fun Γ'=>b3 { E1 with nx:=fun Γ=>hI Iv (k + 1) Γ ⟨⟩,ct:=fun Γ=>hI Iv (k + 1) Γ ⟨⟩,bk:=E1.nx } Γ')
  (he:∀ Γ,Iv xs.length Γ→E1.nx Γ):zH xs Γ1 g3 b3 E1 t:=⟨Iv,h0,hs,he⟩
abbrev hJ (Iv:Nat→List D→G→Prop) (k:Nat) (ys:List D) (Γ:G) (_:Tag Iv):Prop:=Iv k ys Γ
def z_ (xs:List D) (Γ1:G) (fr:List (Option Nat)) (g3:TG3) (e3:TE3) (Q:RV→G→Prop) (_:Tag (fr,g3,e3,Q)):Prop:=∃ Iv:Nat→List D→G→Prop,Iv 0 [] (cC Γ1 (cW fr))∧
 (∀ k d ys Γc,xs[k]?=some d→ys.length=k→Iv k ys Γc→g3 d Γc fun Γ2=>e3 Γ2 fun r Γ3=>Iv (k + 1) (ys++[r.d]) Γ3)∧∀ ys Γc,ys.length=xs.length→Iv xs.length ys Γc→Q (.fr (.lst ys)) (aT fr Γ1 Γc)
theorem B5 {fr:List (Option Nat)} {i3:TI3} {g3:TG3} {t1:Tag (fr,i3,g3,e3)} {t2:Tag Q}:Aa fr i3 g3 e3 Γ Q t1 t2=(i3 Γ fun xs Γ1=>xs.length < sizeLine∧z_ xs Γ1 fr g3 e3 Q ⟨⟩):=rfl
theorem cF {xs:List D} {Γ1:G} {fr:List (Option Nat)} {g3:TG3} {e3:TE3} {Q:RV→G→Prop} {t:Tag (fr,g3,e3,Q)} (Iv:Nat→List D→G→Prop) (h0:Iv 0 [] (cC Γ1 (cW fr)))
  (hs:∀ k d ys Γc,xs[k]?=some d→ys.length=k→Iv k ys Γc→g3 d Γc fun Γ2=>e3 Γ2 fun r Γ3=>hJ Iv (k + 1) (ys++[r.d]) Γ3 ⟨⟩) (he:∀ ys Γc,ys.length=xs.length→Iv xs.length ys Γc→Q (.fr (.lst ys)) (aT fr Γ1 Γc)):z_ xs Γ1 fr g3 e3 Q t:=⟨Iv,h0,hs,he⟩
def wQ (xs:List D) (Γ1:G) (fr:List (Option Nat)) (g3:TG3) (b3:jA) (Q:RV→G→Prop) (_:Tag (fr,g3,b3,Q)):Prop:=sQ xs g3 b3 [] (cC Γ1 (cW fr)) fun ys Γc=>ys.length < sizeLine∧Q (.fr (.lst ys)) (aT fr Γ1 Γc)
theorem yG {fr:List (Option Nat)} {i3:TI3} {g3:TG3} {t1:Tag (fr,i3,g3,bb)} {t2:Tag Q}:wR fr i3 g3 bb Γ Q t1 t2=(i3 Γ fun xs Γ1=>wQ xs Γ1 fr g3 bb Q ⟨⟩):=rfl
theorem nL {xs:List D} {Γ1:G} {fr:List (Option Nat)} {g3:TG3} {b3:jA} {Q:RV→G→Prop} {t:Tag (fr,g3,b3,Q)} (Iv:Nat→List D→G→Prop) (h0:Iv 0 [] (cC Γ1 (cW fr)))
  (hs:∀ k d ys Γ,xs[k]?=some d→Iv k ys Γ→g3 d Γ fun Γ'=>b3 ys Γ' fun ys Γ=>hJ Iv (k + 1) ys Γ ⟨⟩) (he:∀ ys Γc,Iv xs.length ys Γc→ys.length < sizeLine∧Q (.fr (.lst ys)) (aT fr Γ1 Γc)):wQ xs Γ1 fr g3 b3 Q t:=⟨Iv,h0,hs,he⟩
theorem Ck {n:Nat} {xs:List D}:eqN (n + 1) (.lst xs) (.lst [])=some xs.isEmpty:=by cases n <;> cases xs <;> rfl
theorem Cm {n:Nat} {a b c:Int}:eqN (n + 1) (.lst [.int a,.int b,.int c]) (.lst [.int a,.int b,.int c])=some true:=by
 have:=mm (n:=n) [a,b,c] [a,b,c]
 rw[decide_eq_true rfl] at this
 exact this
theorem i28 {a b:Option D}:(if 2=8 then a else b)=b:=if_neg (by decide)
def sX (S:S3) (A:G) (L:List (Option Nat)) (Γ1:G) (Q:RV→G→Prop) (_:Tag Q):Prop:=S A (fun r Γa=>Q r (aT L Γ1 Γa))
def DR (S:S3) (A:G) (Γ1:G) (Q:RV→G→Prop) (_:Tag Q):Prop:=S A (fun r Γa=>r=.fz .non∧zX Γa (fun d=>Q (.fr d) Γ1) ⟨⟩)
theorem yZ {n:Nat} {S:S3} {t3:fI}:rQ n S t3 Γ Q=(t3 Γ fun bs Γ1=>bs.length=n∧(cn bs).Nodup∧sX S (cC Γ1 (bs.map some)) ((bs.map some).map aS) Γ1 Q ⟨⟩):=rfl
theorem By {C:Addr} {m:Str} {n:Nat} {S:S3} {o3:TB3} {t3:fI}:sO C m n S o3 t3 Γ Q=(o3 Γ fun x Γ1=>(∃ ns xs,x.at Γ1=some (.ins C ns xs)∧m∉ns)∧t3 Γ1 fun bs Γ2=>bs.length + 1=n∧(cn (x::bs)).Nodup∧sX S (cC Γ2 ((x::bs).map some)) (((x::bs).map some).map aS) Γ2 Q ⟨⟩):=rfl
theorem BA {C:Addr} {n:Nat} {S:S3} {t3:TA3}:vU C n S t3 Γ Q=(t3 Γ fun ds Γ1=>ds.length + 1=n∧DR S (some (.ln (.ins C [] []))::ds.map fun d=>some (.fz d)) Γ1 Q ⟨⟩):=rfl
theorem yY {S:S3}:rO i S e3 Γ Q=((∃ d,Gat Γ i=some d)∧e3 Γ fun r Γ1=>D4 r (fun d=>sX S [ko Γ1 (.v i),some (.ln d)] [some i,none] Γ1 Q ⟨⟩) ⟨⟩):=rfl
def bG (c:Bool) (t u:TS3) (E1:E3) (Γ:G) (_:Tag (t,u,E1)):Prop:=match c with
 | true=>t E1 Γ
 | false=>u E1 Γ
theorem Gm {s:Tag (t,u,D1)}:bG true t u D1 Γ s=t D1 Γ:=rfl
theorem Gn {s:Tag (t,u,D1)}:bG false t u D1 Γ s=u D1 Γ:=rfl
theorem gu {c:Bool} {s:Tag (t,u,D1)} (h1:c=true→t D1 Γ) (h2:c=false→u D1 Γ):bG c t u D1 Γ s:=by
 cases c with
 | true=>exact h1 rfl
 | false=>exact h2 rfl
theorem DW:DM A3 t u D1 Γ=(A3 Γ fun c Γ1=>bG c t u D1 Γ1 ⟨⟩):=by
 show (A3 Γ fun c Γ1=>match c with | true=>t D1 Γ1 | false=>u D1 Γ1)=_
 congr 1
theorem FW {e:D}:iG (t3C e) t3 Γ QA=(t3 Γ fun xs Γ2=>QA (e::xs) Γ2):=rfl
theorem zO {d e:D}:uL (iG (t3C d) (iG (t3C e) ua)) Γ Q=Q (.fz (.tup [d,e])) Γ:=by
 show (2≤sizeLine∧Q (.fz (.tup [d,e])) Γ)=_
 exact propext ⟨fun h=>h.2,fun h=>⟨by rw[sizeLine_eq];decide,h⟩⟩
theorem FX {d e:D}:iG (uL (iG (t3C d) (iG (t3C e) ua))) t3 Γ QA=(t3 Γ fun xs Γ2=>QA (.tup [d,e]::xs) Γ2):=by
 show uL (iG (t3C d) (iG (t3C e) ua)) Γ (fun x Γ1=>t3 Γ1 fun xs Γ2=>QA (x.d::xs) Γ2)=_
 rw[zO];rfl
end
theorem ln1 {α:Type} {us:List α} (h:us.length=1):∃ a,us=[a]:=by
 match us,h with
 | [a],_=>exact⟨a,rfl⟩
theorem ln2 {α:Type} {us:List α} (h:us.length=2):∃ a b,us=[a,b]:=by
 match us,h with
 | [a,b],_=>exact⟨a,b,rfl⟩
theorem ln3 {α:Type} {us:List α} (h:us.length=3):∃ a b c,us=[a,b,c]:=by
 match us,h with
 | [a,b,c],_=>exact⟨a,b,c,rfl⟩
end L3
namespace L3
open PySem L2
mutual
def kj:D→List Addr
 | .cel p xs=>p::kC xs
 | .lst xs=>kC xs
 | .tup xs=>kC xs
 | .ktup xs=>kC xs
 | .ins _ _ xs=>kC xs
 | .exc _ _ xs=>kC xs
 | _=>[]
def kC:List D→List Addr
 | []=>[]
 | x::xs=>kj x++kC xs
end
def Sl.d:Sl→D
 | .fz d=>d
 | .ow d=>bare d
 | .ln d=>bare d
def nM:G→List Addr
 | []=>[]
 | none::Γ=>nM Γ
 | some s::Γ=>kj s.d++nM Γ
section
variable {K:PySem.W.Frag} {B:Bs} {F:Hp} {σ:L2.St} {H:Hp} {Γ:G} {X:Cx}
mutual
theorem Rep.kj:∀ {d:D} {v:V},Rep K F d v→∀ {q:Addr},q∈kj d→∃ o,F q=some o
 | .cel p xs,v,⟨_,vs,h2,h3⟩,q,h=>by
  rcases List.mem_cons.mp h with rfl | h
  ·exact⟨_,h2⟩
  ·exact av.kj h3 h
 | .lst xs,v,⟨p,vs,_,_,h3⟩,q,h=>av.kj h3 h
 | .tup xs,v,⟨p,vs,_,_,h3⟩,q,h=>av.kj h3 h
 | .ktup xs,v,⟨p,vs,_,_,h3⟩,q,h=>av.kj h3 h
 | .ins _ _ xs,v,⟨p,dx,gs,_,_,_,h3⟩,q,h=>av.kj h3 h
 | .exc _ _ xs,v,⟨p,dx,gs,_,_,_,_,h3⟩,q,h=>av.kj h3 h
 | .non,_,_,_,h=>nomatch h
 | .dct,_,_,_,h=>nomatch h
 | .dcs _ _,_,_,_,h=>nomatch h
 | .bl _,_,_,_,h=>nomatch h
 | .int _,_,_,_,h=>nomatch h
 | .str _,_,_,_,h=>nomatch h
 | .scr _,_,_,_,h=>nomatch h
 | .ty _,_,_,_,h=>nomatch h
 | .adr _,_,_,_,h=>nomatch h
theorem av.kj:∀ {xs:List D} {vs:List V},av K F xs vs→∀ {q:Addr},q∈kC xs→∃ o,F q=some o
 | [],_,_,_,h=>nomatch h
 | x::xs,_,⟨v,ws,_,h1,h2⟩,q,h=>by
  rcases List.mem_append.mp h with h | h
  ·exact Rep.kj h1 h
  ·exact av.kj h2 h
end
def Bs.hid (B:Bs) (p:Addr) (o:HO):Bs:=⟨B.F,upd B.H p o,B.own⟩
theorem En.hide (e:En K B F σ H Γ) {p:Addr} {o:HO} (hF:F p=none) (hH:H p=some o) (hn:∀ (i:Nat) (d:D),Hld Γ i d→σ[i]?≠some (some (V.ref p))):En K (B.hid p o) F σ H Γ where
 sub:=e.sub
 len:=e.len
 fz:=e.fz
 hl:=e.hl
 ow:=fun i d p' h a=>by
  have z:p'≠p:=fun z=>hn i d (.inl h) (z ▸ a)
  show upd B.H p o p'=none
  rw[ak z];exact e.ow i d p' h a
 ln:=e.ln
 dis:=e.dis
 par:=e.par
 keep:=e.keep
 new:=fun b u h=>by
  rcases e.new b u h with q | q
  ·exact .inl q
  ·have z:b≠p:=fun z=>by subst z;rw[hF] at h;cases h
   exact .inr (by show upd B.H p o b=none;rw[ak z];exact q)
 rest:=fun b u h n=>by
  by_cases z:b=p
  ·subst z
   have h:upd B.H b o b=some u:=h
   rw[aD] at h;cases h;exact hH
  ·have h:upd B.H p o b=some u:=h
   rw[ak z] at h;exact e.rest b u h n
 dom:=fun b h=>by
  have z:b≠p:=fun z=>by subst z;rw[hH] at h;cases h
  show upd B.H p o b=none
  rw[ak z];exact e.dom b h
theorem En.Aq {p:Addr} {o:HO} (e:En K (B.hid p o) F σ H Γ) (hB:B.H p=none) (hF:B.F p=none) (hn:∀ i,(i,p)∉B.own) :
  En K B F σ H Γ∧H p=some o∧F p=none∧∀ (i:Nat) (d:D),Hld Γ i d→σ[i]?≠some (some (V.ref p)):=by
 have at_p:(B.hid p o).H p=some o:=aD
 have ne:∀ {b:Addr},b≠p→(B.hid p o).H b=B.H b:=fun z=>ak z
 have un:∀ {b:Addr},(B.hid p o).H b=none→B.H b=none:=fun {b} h=>by
  have z:b≠p:=fun z=>by subst z;rw[at_p] at h;cases h
  rw[← ne z];exact h
 refine⟨⟨e.sub,e.len,e.fz,e.hl,fun i d q h a=>un (e.ow i d q h a),e.ln,e.dis,e.par,e.keep,fun b u h=>(e.new b u h).imp id un,fun b u h n=>e.rest b u ?_ n,fun b h=>un (e.dom b h)⟩,e.rest p o at_p hn,?_,fun i d h a=>?_⟩
 ·have z:b≠p:=fun z=>by subst z;rw[hB] at h;cases h
  rw[ne z];exact h
 ·cases q:F p with
  | none=>rfl
  | some u=>
   rcases e.new p u q with z | z
   ·rw[show (B.hid p o).F p=B.F p from rfl,hF] at z;cases z
   ·rw[at_p] at z;cases z
 ·rcases h with h | h
  ·have z:=e.ow i d p h a
   rw[at_p] at z;cases z
  ·exact hn i (e.ln i d p h a)
def frL (r:RV) (k:List D→Prop):Prop:=match r with
 | .fr (.lst xs)=>k xs
 | _=>False
theorem Cf {r:RV} {k:List D→Prop} (h:frL r k):∃ xs,r=.fr (.lst xs)∧k xs:=by
 cases r with
 | fz d=>exact h.elim
 | two _ _=>exact h.elim
 | rws _=>exact h.elim
 | fr d=>cases d <;> first | exact h.elim | exact⟨_,rfl,h⟩
def EX (a3 b3:TE3) (Γ:G) (Q:RV→G→Prop):Prop:=a3 Γ fun r Γ1=>frL r fun xs=>b3 Γ1 fun r' Γ2=>frL r' fun ys=>Q (.two xs ys) Γ2
variable {a b:Expr} {ta tb:TE} {a3 b3:TE3} {pos:Pos}
def CI (r:RV) (k:List D→List D→Prop):Prop:=match r with
 | .two xs ys=>k xs ys
 | _=>False
def CW (i j:Nat) (e3:TE3) (D:E3) (Γ:G):Prop:=e3 Γ fun r Γ1=>CI r fun xs ys=>∀ p q,p≠q→p∉nM Γ1→q∉nM Γ1→bc Γ1 i∧bc (Γ1.set i (some (.fz (.cel p xs)))) j∧D.nx ((Γ1.set i (some (.fz (.cel p xs)))).set j (some (.fz (.cel q ys))))
def AA (i:Nat) (Γ:G) (Q:RV→G→Prop):Prop:=match Γ[i]? with
 | some (some (.fz (.cel _ xs)))=>Q (.fz (.lst xs)) Γ
 | _=>False
def Az (i:Nat) (Γ:G) (Q:RV→G→Prop):Prop:=match Γ[i]? with
 | some (some (.ow (.lst xs)))=>∀ p,p∉nM Γ→Q (.fz (.cel p xs)) (Γ.set i (some (.fz (.cel p xs))))
 | _=>False
def nm3 (a3:TE3) (Γ:G) (Q:RV→G→Prop):Prop:=a3 Γ fun r Γ1=>frL r fun xs=>∀ p,p∉nM Γ1→Q (.fz (.cel p xs)) Γ1
def iT3 (a3:TE3) (Γ:G) (Q:List D→G→Prop):Prop:=a3 Γ fun r Γ1=>∃ xs,r.d=.tup xs∧Q xs Γ1
theorem rA {tg l:Expr} {tl:TE} {l3:TE3} (hK:X.K=K) (h:P3 K X l tl l3):P3I K X tg l (DO K tl) (iT3 l3):=⟨by subst hK;exact A4 h.pe,fun B F σ H Γ Q R e q k=>
 h.rf B F σ H Γ _ _ e q fun v H' ⟨F',Γ',r,s,e',rv,xs,hx,q'⟩=>by
  obtain⟨F2,s2,e2,r2⟩:=e'.frozen rv
  rw[hx] at r2
  obtain⟨p,vs,rfl,h1,h2⟩:=r2
  refine⟨p,rfl,⟨vs,SqT.of (e2.sub _ _ h1)⟩,k _ H' F2 Γ' xs (s.trans s2) e2 ⟨fun i H'' sm lt=>?_,fun i H'' sm ei=>?_,fun i H'' x H3 d sm hd y=>?_⟩ q'⟩
  ·rw[← h2.length] at lt
   exact⟨vs,vs[i],SqT.of (sm _ _ h1),by simp [lt]⟩
  ·exact⟨vs,SqT.of (sm _ _ h1),by rw[h2.length];omega⟩
  ·obtain⟨e1,y⟩:=y
   obtain⟨d',hd',r⟩:=h2.yL (y vs (SqT.of (sm _ _ h1)))
   rw[hd] at hd';cases hd'
   exact .inl ⟨e1,r⟩⟩
end
end L3
namespace L3
open PySem L2 PySem.Spec PyProof.Rows
mutual
def pin:D→Bool
 | .cel _ xs=>pC xs
 | .tup xs=>pC xs
 | .ins _ _ xs=>pC xs
 | .lst _=>false
 | .ktup _=>false
 | .scr _=>false
 | .exc _ _ _=>false
 | .dct=>true
 | .dcs _ _=>true
 | .non=>true
 | .bl _=>true
 | .int _=>true
 | .str _=>true
 | .ty _=>true
 | .adr _=>true
def pC:List D→Bool
 | []=>true
 | x::xs=>pin x && pC xs
end
mutual
def clr (p:Addr):D→D
 | .cel q xs=>if q=p then .cel q [] else .cel q (oP p xs)
 | .tup xs=>.tup (oP p xs)
 | .ins C ns xs=>.ins C ns (oP p xs)
 | .non=>.non
 | .bl b=>.bl b
 | .int i=>.int i
 | .str s=>.str s
 | .ty n=>.ty n
 | .adr a=>.adr a
 | .lst xs=>.lst xs
 | .ktup xs=>.ktup xs
 | .scr ns=>.scr ns
 | .exc C ns xs=>.exc C ns xs
 | .dct=>.dct
 | .dcs k i=>.dcs k i
def oP (p:Addr):List D→List D
 | []=>[]
 | x::xs=>clr p x::oP p xs
end
section
variable {K:PySem.W.Frag} {B:Bs} {F:Hp} {σ:L2.St} {H:Hp} {Γ:G} {X:Cx} {p:Addr}
mutual
theorem Rep.clr {ws:List V} (hp:F p=some (.lst ws)):∀ {d:D} {v:V},Rep K F d v→pin d=true→Rep K (upd F p (.lst [])) (clr p d) v
 | .cel q xs,v,h,hd=>by
  rw[pin] at hd
  rw[L3.clr]
  rw[Rep] at h
  obtain⟨h1,vs,h2,h3⟩:=h
  by_cases z:q=p
  ·subst z
   rw[if_pos rfl,Rep]
   exact⟨h1,[],aD,by rw[av]⟩
  ·rw[if_neg z,Rep]
   exact⟨h1,vs,by rw[ak z];exact h2,av.clr hp h3 hd⟩
 | .tup xs,v,h,hd=>by
  rw[pin] at hd
  rw[L3.clr,Rep]
  rw[Rep] at h
  obtain⟨q,vs,h1,h2,h3⟩:=h
  exact⟨q,vs,h1,by rw[ak (fun z=>by rw[z,hp] at h2;cases h2)];exact h2,av.clr hp h3 hd⟩
 | .ins C ns xs,v,h,hd=>by
  rw[pin] at hd
  rw[L3.clr,Rep]
  rw[Rep] at h
  obtain⟨q,dx,gs,h1,h2,h3,h4⟩:=h
  exact⟨q,dx,gs,h1,by rw[ak (fun z=>by rw[z,hp] at h2;cases h2)];exact h2,h3,av.clr hp h4 hd⟩
 | .non,v,h,_=>by rw[L3.clr,Rep];rw[Rep] at h;exact h
 | .dct,v,h,_=>by
  rw[L3.clr,Rep]
  rw[Rep] at h
  obtain⟨q,h1,h2⟩:=h
  exact⟨q,h1,by rw[ak (fun z=>by rw[z,hp] at h2;cases h2)];exact h2⟩
 | .dcs _ _,v,h,_=>by
  rw[L3.clr,Rep]
  rw[Rep] at h
  obtain⟨q,h1,h2⟩:=h
  exact⟨q,h1,by rw[ak (fun z=>by rw[z,hp] at h2;cases h2)];exact h2⟩
 | .bl _,v,h,_=>by rw[L3.clr,Rep];rw[Rep] at h;exact h
 | .int _,v,h,_=>by rw[L3.clr,Rep];rw[Rep] at h;exact h
 | .str _,v,h,_=>by rw[L3.clr,Rep];rw[Rep] at h;exact h
 | .ty _,v,h,_=>by rw[L3.clr,Rep];rw[Rep] at h;exact h
 | .adr _,v,h,_=>by rw[L3.clr,Rep];rw[Rep] at h;exact h
 | .lst _,v,h,hd=>by rw[pin] at hd;cases hd
 | .ktup _,v,h,hd=>by rw[pin] at hd;cases hd
 | .scr _,v,h,hd=>by rw[pin] at hd;cases hd
 | .exc _ _ _,v,h,hd=>by rw[pin] at hd;cases hd
theorem av.clr {ws:List V} (hp:F p=some (.lst ws)):∀ {xs:List D} {vs:List V},av K F xs vs→pC xs=true→av K (upd F p (.lst [])) (oP p xs) vs
 | [],vs,h,_=>by rw[oP,av];rw[av] at h;exact h
 | x::xs,vs,h,hd=>by
  rw[pC,Bool.and_eq_true] at hd
  rw[oP,av]
  rw[av] at h
  obtain⟨v,us,h1,h2,h3⟩:=h
  exact⟨v,us,h1,Rep.clr hp h2 hd.1,av.clr hp h3 hd.2⟩
end
def Ga (p:Addr):Option Sl→Option Sl
 | some (.ow (.lst xs))=>some (.ow (.lst (oP p xs)))
 | some (.ln (.lst xs))=>some (.ln (.lst (oP p xs)))
 | _=>none
def Eg (p:Addr):G→G
 | []=>[]
 | s::Γ=>Ga p s::Eg p Γ
def Fx:Option Sl→Prop
 | some (.ow (.lst xs))=>pC xs=true
 | some (.ln (.lst xs))=>pC xs=true
 | some (.ow _)=>False
 | some (.ln _)=>False
 | _=>True
def EF:G→Prop
 | []=>True
 | s::Γ=>Fx s∧EF Γ
def EC (K:PySem.W.Frag) (t:TS) (t3:TS3):Prop:=∀ (B:Bs),(∀ x,B.F x=none)→∀ (F:Hp) (σ:L2.St) (H:Hp) (Γ:G) (D:Ends) (D3:E3),En K B F σ H Γ→nU K B B.F D D3→t3 D3 Γ→t D σ H
structure G8 (K:PySem.W.Frag) (X:Cx) (st:List Stmt) (t:TS) (t3:TS3):Prop where
 pe:PSs X st t
 rf:EC K t t3
variable {st:Stmt} {rest:List Stmt} {t u:TS} {t3 u3:TS3}
def Ei (r:RV) (k:Addr→Prop):Prop:=match r with
 | .fz (.cel p _)=>k p
 | _=>False
def Gb (o3:TE3) (D:E3) (Γ:G):Prop:=o3 Γ fun r Γ1=>Ei r fun p=>EF Γ1∧D.nx (Eg p Γ1)
end
def yr:Hp:=fun _=>none
def Hr (K:PySem.W.Frag) (n:Nat) (S:S3):Sp:=fun vs H Q _=>vs.length=n∧∃ own Γa Q3,En K ⟨yr,H,own⟩ yr (vs.map some) H Γa∧(∀ (k:Nat) (d:D),Γa[k]?≠some (some (Sl.ow d)))∧S Γa Q3∧∀ r Γ',Q3 r Γ'→∀ v H' F',En K ⟨yr,H,own⟩ F' (vs.map some) H' Γ'→dC K ⟨yr,H,own⟩ F' (vs.map some) H' Γ' v r→Q v H'
section
variable {P:Program} {w:World} {K:PySem.W.Frag} {mg:Str→Option Value} {base:Heap}
end
end L3
namespace L3
open PySem L2 PySem.Spec PyProof.Rows
def kpE (f:List Int→Sl) (C:List Int→Str→List Int→Prop) (R:List Int→List Int→Prop):S3:=fun Γ Q=>∃ (bs:List Int) (z:Str) (ns:List Int),Γ=[some (.ln (.lst (bs.map .int))),some (.fz (.str z)),some (f ns)]∧C bs z ns∧∀ bs',R bs bs'→Q (.fz (.bl true)) [some (.ln (.lst (bs'.map .int))),some (.fz (.str z)),some (f ns)]
section
variable {P:Program} {w:World} {K:PySem.W.Frag} {mg:Str→Option Value} {base:Heap}
end
end L3
namespace L3
open PySem L2 PySem.Spec PyProof.Rows
section
variable {K:PySem.W.Frag} {B:Bs} {F:Hp} {σ:L2.St} {H:Hp} {Γ:G} {X:Cx} {pos:Pos}
def Dn (i j:Nat) (a3 b3:TE3) (D:E3) (Γ:G):Prop:=a3 Γ fun r Γ1=>frL r fun xs=>b3 Γ1 fun r' Γ2=>frL r' fun ys=>bc Γ2 i∧bc (Γ2.set i (some (.ow (.lst xs)))) j∧D.nx ((Γ2.set i (some (.ow (.lst xs)))).set j (some (.ow (.lst ys))))
def CJ (i:Nat) (b3:TE3) (Γ:G) (Q:RV→G→Prop):Prop:=(∃ d,Gat Γ i=some d)∧b3 Γ fun r' Γ2=>frL r' fun ys=>∃ xs,Γ2[i]?=some (some (Sl.ow (.lst xs)))∧Q (.two xs ys) (Γ2.set i none)
def FY (a3:TE3) (Γ:G) (Q:RV→G→Prop):Prop:=a3 Γ fun r Γ1=>Q (.fz r.d) Γ1
end
abbrev rd2 (f:List Int→Sl) (C:List Int→Int→Prop) (g:List Int→Int→List Int):S3:=fun Γ Q=>∃ (ns:List Int) (m:Int),Γ=[some (f ns),some (.fz (.int m))]∧C ns m∧Q (.fr (.lst ((g ns m).map .int))) Γ
section
variable {P:Program} {w:World} {K:PySem.W.Frag} {mg:Str→Option Value} {base:Heap}
end
end L3
namespace L3
open PySem L2
def wd (i:Int):List Nat:=(toString i).toList.map Char.toNat
def Wd (w:List Nat):Prop:=∀ c∈w,c≠44∧c≠93
def tl:List Int→List Nat
 | []=>[93]
 | i::is=>44::32::(wd i++tl is)
def lt:List Int→List Nat
 | []=>[91,93]
 | i::is=>91::(wd i++tl is)
end L3
namespace L3
open PySem L2 PySem.Spec PyProof.Rows
structure XD where
 C:Addr
 ns:List Str
 xs:List D
def Ey (K:PySem.W.Frag) (F:Hp) (cls:Value) (dx:Option Addr) (x:XD):Prop:=cls=.ref x.C∧∃ d gs,dx=some d∧F d=some (XdO d gs)∧gs.map (·.1)=x.ns∧av K F x.xs (gs.map (·.2))
def XR (K:PySem.W.Frag) (B:Bs) (F0:Hp) (E:L2.St→XK) (W:XD→G→Prop):Prop:=∀ F' σ' H' Γ' cls dx x,aE F0 F'→En K B F' σ' H' Γ'→Ey K F' cls dx x→W x Γ'→E σ' cls dx H'
def Gx (K:PySem.W.Frag) (B:Bs) (F0:Hp) (t:TE) (t3:TE3):Prop:=∀ (F:Hp) (σ:L2.St) (H:Hp) (Γ:G) (Q:RV→G→Prop) (QQ:VK),aE F0 F→En K B F σ H Γ→t3 Γ Q→(∀ v H',Po K B F σ Q v H'→QQ v H')→t σ H QQ
def Al (K:PySem.W.Frag) (B:Bs) (F0:Hp) (t:TS) (t3:TS3):Prop:=∀ (F:Hp) (σ:L2.St) (H:Hp) (Γ:G) (D:Ends) (D3:E3),aE F0 F→En K B F σ H Γ→nU K B F D D3→t3 D3 Γ→t D σ H
structure P3X (K:PySem.W.Frag) (X:Cx) (B:Bs) (F0:Hp) (e:Expr) (t:TE) (t3:TE3):Prop where
 pe:PE X e t
 rf:Gx K B F0 t t3
structure HN (K:PySem.W.Frag) (X:Cx) (B:Bs) (F0:Hp) (st:Stmt) (t:TS) (t3:TS3):Prop where
 pe:PS X st t
 rf:Al K B F0 t t3
structure G7 (K:PySem.W.Frag) (X:Cx) (B:Bs) (F0:Hp) (st:List Stmt) (t:TS) (t3:TS3):Prop where
 pe:PSs X st t
 rf:Al K B F0 t t3
section
variable {K:PySem.W.Frag} {X:Cx} {B:Bs} {F0:Hp} {e:Expr} {st:Stmt} {rest:List Stmt} {te:TE} {e3:TE3} {t u:TS} {t3 u3:TS3} {pos:Pos}
end
abbrev S3X:=G→(RV→G→Prop)→(XD→G→Prop)→Prop
def Hq (K:PySem.W.Frag) (n:Nat) (S:S3X):Sp:=fun vs H Q E=>vs.length=n∧∃ F own Γa Q3 W3,En K ⟨F,H,own⟩ F (vs.map some) H Γa∧(∀ (k:Nat) (d:D),Γa[k]?≠some (some (Sl.ow d)))∧S Γa Q3 W3∧
 (∀ r Γ',Q3 r Γ'→∀ v H' F',En K ⟨F,H,own⟩ F' (vs.map some) H' Γ'→dC K ⟨F,H,own⟩ F' (vs.map some) H' Γ' v r→Q v H')∧
 ∀ x Γ',W3 x Γ'→∀ H' F' cls dx,En K ⟨F,H,own⟩ F' (vs.map some) H' Γ'→Ey K F' cls dx x→E cls dx H'
def Cq (n:Nat) (S:S3X) (t3:fI) (W:XD→G→Prop) (Γ:G) (Q:RV→G→Prop):Prop:=t3 Γ fun bs Γ1=>bs.length=n∧(cn bs).Nodup∧S (cC Γ1 (bs.map some)) (fun r Γa=>Q r (aT ((bs.map some).map aS) Γ1 Γa)) fun x Γa=>W x (aT ((bs.map some).map aS) Γ1 Γa)
section
variable {K:PySem.W.Frag} {B:Bs} {F0:Hp}
end
section
variable {P:Program} {w:World} {K:PySem.W.Frag} {mg:Str→Option Value} {base:Heap}
end
end L3
namespace L3
open PySem L2 PySem.Spec PyProof.Rows
section
variable {K:PySem.W.Frag} {X:Cx} {B:Bs} {F0:Hp} {e:Expr} {te:TE} {e3:TE3} {pos:Pos}
end
section
variable {K:PySem.W.Frag} {X:Cx} {B:Bs} {F0:Hp} {CX:CXT} {k:Nat} {f C:Addr} {fd:FuncData} {ps:List Str} {x m:Str} {p pos apos:Pos} {e o:Expr} {es:List Expr} {ta:TE} {t:TA} {t3:fI} {o3:TB3} {n:Nat} {S:S3X} {E:L2.St→XK} {W:XD→G→Prop}
def FG (C:Addr) (m:Str) (n:Nat) (S:S3X) (o3:TB3) (t3:fI) (W:XD→G→Prop) (Γ:G) (Q:RV→G→Prop):Prop:=o3 Γ fun x Γ1=>(∃ ns xs,x.at Γ1=some (.ins C ns xs)∧m∉ns)∧t3 Γ1 fun bs Γ2=>bs.length + 1=n∧(cn (x::bs)).Nodup∧
 S (cC Γ2 ((x::bs).map some)) (fun r Γa=>Q r (aT (((x::bs).map some).map aS) Γ2 Γa)) fun y Γa=>W y (aT (((x::bs).map some).map aS) Γ2 Γa)
end
def Hn (K:PySem.W.Frag) (C:Addr) (ns:List Str):Sp:=fun vs H Q _=>∃ e ys,vs=.ref e::ys∧ys.length=ns.length∧H e=some (kU e C none)∧∀ d,H d=none→d≠e→Q .non (upd (upd H d (XdO d (ns.zip ys))) e (kU e C (some d)))
def AO (C:Addr) (ns:List Str) (t3:TA3) (W:XD→G→Prop) (_:E3) (Γ:G):Prop:=t3 Γ fun ds Γ1=>ds.length=ns.length∧W ⟨C,ns,ds⟩ Γ1
section
variable {K:PySem.W.Frag} {X:Cx} {B:Bs} {F0:Hp} {CX:CXT} {k:Nat} {f C:Addr} {fd:FuncData} {ps ns:List Str} {x:Str} {p pos cpos:Pos} {e:Expr} {es:List Expr} {t:TA} {t3:TA3} {E:XK} {W:XD→G→Prop}
end
end L3
namespace L3
open PySem L2 PySem.Spec PyProof.Rows
def E3.yI (D:E3) (i:Nat):E3:=⟨fun Γ=>bc Γ i∧D.nx (Γ.set i none),D.rt,fun Γ=>bc Γ i∧D.bk (Γ.set i none),fun Γ=>bc Γ i∧D.ct (Γ.set i none)⟩
def CK (K:PySem.W.Frag) (C₀:Addr) (i:Nat) (s3:TS3) (D:E3) (x:XD) (Γ:G):Prop:=PySem.W.mroIn K x.C (.ref C₀)=some true∧bc Γ i∧s3 (D.yI i) (Γ.set i (some (.fz (.exc x.C x.ns x.xs))))
def EZ (K:PySem.W.Frag) (C₀:Addr) (i:Nat) (b3:(XD→G→Prop)→TS3) (s3:TS3) (D:E3) (Γ:G):Prop:=b3 (CK K C₀ i s3 D) D Γ
section
variable {K:PySem.W.Frag} {B:Bs} {F F0:Hp} {σ:L2.St} {H:Hp} {Γ:G} {C₀:Addr} {i:Nat}
end
section
variable {K:PySem.W.Frag} {X:Cx} {B:Bs} {F0:Hp} {x nm:Str} {i:Nat} {C₀ L:Addr} {body suite:List Stmt} {b₀:Stmt} {np hpos pos:Pos} {tb:(L2.St→XK)→TS} {b3:(XD→G→Prop)→TS3} {ts:TS} {s3:TS3}
end
end L3
namespace L3
open PySem L2 PySem.Spec PyProof.Rows
section
variable {K:PySem.W.Frag} {X:Cx} {a:Expr} {ta:TE} {a3:TB3} {pos:Pos}
def CG (P:Addr→Prop) (f:Str) (x:D) (Γ:G) (Q:RV→G→Prop):Prop:=match x with
 | .exc C ns xs=>P C∧∃ d,(ns.zip xs).lookup f=some d∧Q (.fz d) Γ
 | _=>False
def dvv:D→Option Value
 | .adr a=>some (.ref a)
 | .ty n=>some (.type n)
 | _=>none
def FJ (K:PySem.W.Frag) (P:Addr→Prop) (ds:List D) (Γ:G) (Q:RV→G→Prop):Prop:=match ds with
 | [.exc C ns xs,c]=>P C∧∃ u b,dvv c=some u∧PySem.W.kitOne K (.ref C) u=some b∧Q (.fz (.bl b)) Γ
 | _=>False
def G0 (K:PySem.W.Frag) (P:Addr→Prop) (ds:List D) (Γ:G) (Q:RV→G→Prop):Prop:=match ds with
 | [.exc C ns xs,.tup cs]=>P C∧∃ us b,cs.mapM dvv=some us∧PySem.W.kitAny K (.ref C) us=some b∧Q (.fz (.bl b)) Γ
 | _=>False
end
end L3
namespace L2
open PySem PySem.Spec PyProof.Rows
section
variable {X:Cx}
def Hw:V→List V→Hp→VK→Prop:=fun x vs H Q=>∃ z y,x=.str z∧vs=[.str y]∧z.length≤sizeLine∧Q (.str (Txt.removeprefix z y)) H
def Fp:V→List V→Hp→VK→Prop:=fun x vs H Q=>∃ z y,x=.str z∧vs=[.str y]∧(y.length == 0)=false∧z.length≤sizeLine∧(Txt.split z y).length≤sizeLine∧∀ l,H l=none→Q (.ref l) (upd H l (.lst ((Txt.split z y).map V.str)))
def rJoin (K:PySem.W.Frag):V→List V→Hp→VK→Prop:=fun x vs H Q=>∃ z p zs,x=.str z∧vs=[.ref p]∧SqL K H p (zs.map V.str)∧JoinOk z zs=true∧Q (.str (Txt.join z zs)) H
theorem wY:cy X (.builtin "isinstance") (fun xs H Q=>∃ x c t b,xs=[x,c]∧i5 X.K H x t∧isC c=true∧PySem.W.kitOne X.K t (vv c)=some b∧Q (.bl b) H):=by
 intro pins s σ H xs us Q I r h
 obtain⟨x,c,t,b,rfl,ty,ic,k,q⟩:=h
 obtain⟨u,w',rfl,ru,rw'⟩:=vals2 r
 obtain rfl:=CH ic rw'
 exact nC I ru ty k fun tk=>⟨.bl b,H,I.tok _,rfl,q⟩
end
end L2
namespace L3
open PySem L2
section
variable {K:PySem.W.Frag} {B:Bs} {F:Hp} {σ:L2.St} {H:Hp} {Γ:G} {X:Cx} {a b o e:Expr} {to te ta:TE} {e3 o3 a3:TE3} {b3:TB3} {pos apos cpos:Pos}
def Fw (o3 e3:TE3) (Γ:G) (Q:RV→G→Prop):Prop:=o3 Γ fun x Γ1=>oSt x.d (fun z=>e3 Γ1 fun r Γ2=>oSt r.d (fun y=>z.length≤sizeLine∧Q (.fz (.str (Txt.removeprefix z y))) Γ2) ⟨⟩) ⟨⟩
def Fi (o3 e3:TE3) (Γ:G) (Q:RV→G→Prop):Prop:=o3 Γ fun x Γ1=>oSt x.d (fun z=>e3 Γ1 fun r Γ2=>oSt r.d (fun y=>((y.length == 0)=false∧z.length≤sizeLine∧(Txt.split z y).length≤sizeLine)∧Q (.fr (.lst ((Txt.split z y).map .str))) Γ2) ⟨⟩) ⟨⟩
def DG (o3:TE3) (b3:TB3) (Γ:G) (Q:RV→G→Prop):Prop:=o3 Γ fun x Γ1=>oSt x.d (fun z=>b3 Γ1 fun r Γ2=>∃ zs:List Str,r.at Γ2=some (.lst (zs.map .str))∧JoinOk z zs=true∧Q (.fz (.str (Txt.join z zs))) Γ2) ⟨⟩
section
variable (hbase:∀ m:Str,m="removeprefix"∨m="split"∨m="join"→True)
end
def DK (ds:List D) (Γ:G) (Q:RV→G→Prop):Prop:=match ds with
 | [.str z]=>∃ n,(PySem.intText? z=some n∧z.length≤640)∧Q (.fz (.int n)) Γ
 | _=>False
def itx (i:Int):Str:=Str.ofString (toString i)
def Fh (ds:List D) (Γ:G) (Q:RV→G→Prop):Prop:=match ds with
 | [.int i]=>i.natAbs < 10 ^ 60∧Q (.fz (.str (itx i))) Γ
 | _=>False
def inT (i j:Str):Bool:=!(Builtin.Str.occurrences j i 0 j.length 1).isEmpty
def FN (x y:D) (Γ:G) (Q:RV→G→Prop):Prop:=match x,y with
 | .str i,.str j=>Q (.fz (.bl (inT i j))) Γ
 | _,_=>False
def isN:D→Bool
 | .non=>true | _=>false
def FK (neg:Bool) (x y:D) (Γ:G) (Q:RV→G→Prop):Prop:=y=.non∧Q (.fz (.bl (neg ^^ isN x))) Γ
theorem x5 (e:En K B F σ H Γ) {Q:RV→G→Prop} {l:Addr} (hl:H l=none) (q:Q (.fz .dct) Γ):Po K B F σ Q (.ref l) (upd H l (.dK [])):=
 ⟨upd F l (.dK []),Γ,.fz .dct,bw (e.nof hl),(e.alloc hl _).freeze (e.nof hl) aD (e.dom _ hl) (e.pO hl),⟨l,rfl,aD⟩,q⟩
theorem vF:P3 K X (.Dict [] [] pos) uN (t3C .dct):=⟨vy,fun B F σ H Γ Q QQ e q k=>fun p hp=>k _ _ (x5 e hp q)⟩
theorem sJ {x:Str} {C:Addr} (hg:Gl X x) (hm:X.mg x=some (.ref C)) (hd:(x == ("__debug__":Str))=false:=by decide):P3 K X (.Name x pos) (tC (.ref C)) (t3C (.adr C)):=
 ⟨sE hg hm rfl hd,fun B F σ H Γ Q QQ e q k=>k _ _ (gj (d:=.adr C) e rfl q)⟩
structure Am (K:PySem.W.Frag) (C:Addr):Prop where
 cl:Cls K C
 ha:PySem.W.findIn K (.ref C) "__class__"=some (some (.builtin "object.__class__"))
 hn:PySem.W.specialIn K (.builtin "object.__class__") "__get__"=some (some (.builtin "getset_descriptor.__get__"))
 ht:PySem.W.takesIn K (.builtin "object.__class__")=some true
 hm:PySem.W.mroIn K C (.type "object")=some true
 o:PySem.W.kitOne K (.ref C) (.ref C)=some true
 b:PySem.W.kitOne K (.type "bool") (.ref C)=some false
 i:PySem.W.kitOne K (.type "int") (.ref C)=some false
 n:PySem.W.kitOne K (.type "NoneType") (.ref C)=some false
 s:PySem.W.kitOne K (.type "str") (.ref C)=some false
 l:PySem.W.kitOne K (.type "list") (.ref C)=some false
 t:PySem.W.kitOne K (.type "tuple") (.ref C)=some false
 d:PySem.W.kitOne K (.type "dict") (.ref C)=some false
def yg (C:Addr):D→Option Bool
 | .ins C' _ _=>if C'=C then some true else none
 | d=>if knD d=true then some false else none
theorem sM {C:Addr} {d:D} (h:knD d=true):yg C d=some false:=by
 cases d <;> first | rfl | cases h
theorem pG {C:Addr} {ns:List Str} {xs:List D}:yg C (.ins C ns xs)=some true:=by simp [yg]
def BP (C:Addr) (ds:List D) (Γ:G) (Q:RV→G→Prop):Prop:=match ds with
 | [d,.adr C']=>C'=C∧∃ b,yg C d=some b∧Q (.fz (.bl b)) Γ
 | _=>False
theorem Ag {C:Addr} (hK:X.K=K) (c:Am K C):B3 K X (.builtin "isinstance") (fun xs H Q=>∃ x c t b,xs=[x,c]∧i5 K H x t∧isC c=true∧PySem.W.kitOne K t (vv c)=some b∧Q (.bl b) H) (BP C):=⟨by subst hK;exact wY,by
 intro B F σ H Γ vs ds Q QQ e r q k
 unfold BP at q
 split at q
 ·rename_i d C'
  obtain⟨rfl,b,hb,q⟩:=q
  obtain⟨v,w,rfl,h1,h2⟩:=r.two
  cases h2
  have go:∃ t,i5 K H v t∧PySem.W.kitOne K t (.ref C')=some b:=by
   by_cases hk:knD d=true
   ·rw[sM hk] at hb
    cases hb
    cases wa e.sub h1 hk with
    | non=>exact⟨_,.non,c.n⟩
    | bl x=>exact⟨_,.bl x,c.b⟩
    | int x=>exact⟨_,.int x,c.i⟩
    | str x=>exact⟨_,.str x,c.s⟩
    | lst x=>exact⟨_,.lst x,c.l⟩
    | tup x=>exact⟨_,.tup x,c.t⟩
    | dK x=>exact⟨_,.dK x,c.d⟩
   ·cases d with
    | ins C0 ns xs=>
     have hb':(if C0=C' then some true else none)=some b:=hb
     by_cases z:C0=C'
     ·rw[if_pos z] at hb'
      cases hb'
      subst z
      obtain⟨p,dx,gs,rfl,g,_⟩:=h1
      exact⟨_,.ins g c.cl c.ha c.hn c.ht c.hm,c.o⟩
     ·rw[if_neg z] at hb';cases hb'
    | _=>first | exact absurd rfl hk | cases hb
  obtain⟨t,ty,kk⟩:=go
  exact⟨v,_,t,b,rfl,ty,rfl,kk,k _ _ (jK e q)⟩
 ·exact q.elim⟩
end
section
variable {K:PySem.W.Frag} {X:Cx} {c:Expr} {body:List Stmt} {tc:TT} {A3:TT3} {tb:TS} {b3:TS3} {pos:Pos}
def uH (A3:TT3) (b3:TS3) (D:E3) (Γ:G):Prop:=∃ W:Nat→G→Prop,(∃ m,W m Γ)∧∀ m Γ,W m Γ→A3 Γ fun b Γ1=>match b with
 | true=>b3 { D with nx:=fun Γ'=>∃ m',m' < m∧W m' Γ',ct:=fun Γ'=>∃ m',m' < m∧W m' Γ',bk:=D.nx } Γ1
 | false=>D.nx Γ1
def Ap (A3:TT3) (b3:TS3) (D:E3) (Γ:G) (_:Tag D):Prop:=uH A3 b3 D Γ
theorem uG {D:E3} {Γ:G}:uH A3 b3 D Γ=Ap A3 b3 D Γ ⟨⟩:=rfl
end
end L3
namespace L3
open PySem L2
abbrev sg (z:Str):List Nat:=z.cps.toList
def jn (sep:List Nat):List (List Nat)→List Nat
 | []=>[]
 | [x]=>x
 | x::y::r=>x++(sep++jn sep (y::r))
def GY (s sub:Str) (hi limit:Nat) (st:Array Nat×Nat) (i:Nat):Array Nat×Nat:=if ((st.1.size < limit∧st.2≤i)∧i + sub.length≤hi)∧Builtin.Str.subAt s sub i=true then (st.1.push i,i + sub.length) else st
def F9 (n:Nat) (p:Nat):List (List Nat)→List Nat
 | []=>[]
 | [_]=>[]
 | w::w'::r=>(p + w.length)::F9 n (p + w.length + n) (w'::r)
def dg (m:Nat):List Nat:=(Nat.toDigits 10 m).map Char.toNat
end L3
namespace L3
open PySem L2
section
variable {K:PySem.W.Frag} {X:Cx} {st:Stmt} {t:TS} {t3:TS3}
def Ho (K:PySem.W.Frag):Sp:=fun vs H Q _=>∃ e C dx y,vs=[.ref e,y]∧jC K C "ValueError" "ValueError.__new__"=true∧H e=some (kU e C dx)∧Q .non H
end
def fz3 (e3:TE3) (Γ:G) (Q:RV→G→Prop):Prop:=e3 Γ fun r Γ1=>Q (.fz r.d) Γ1
theorem nk {K:PySem.W.Frag} {X:Cx} {e:Expr} {te:TE} {e3:TE3} (h:P3 K X e te e3):P3 K X e te (fz3 e3):=⟨h.pe,fun B F σ H Γ Q QQ en q k=>h.rf B F σ H Γ _ _ en q fun v H' ⟨F',Γ',r,s,e',rv,q'⟩=>by
 obtain⟨F2,s2,e2,rp⟩:=e'.frozen rv
 exact k v H' ⟨F2,Γ',.fz r.d,s.trans s2,e2,rp,q'⟩⟩
def DQ (S:S3X) (Γa:G) (ls:List (Option Nat)) (Γ:G) (Q:RV→G→Prop) (W:XD→G→Prop) (_:Tag (Q,W)):Prop:=S Γa (fun r Γb=>Q r (aT ls Γ Γb)) fun x Γb=>W x (aT ls Γ Γb)
section
variable {Γ:G} {Q:RV→G→Prop} {W:XD→G→Prop} {D:E3}
theorem yX {n:Nat} {S:S3X} {t3:fI}:Cq n S t3 W Γ Q=(t3 Γ fun bs Γ1=>bs.length=n∧(cn bs).Nodup∧DQ S (cC Γ1 (bs.map some)) ((bs.map some).map aS) Γ1 Q W ⟨⟩):=rfl
theorem xS {C:Addr} {ns:List Str} {t3:TA3}:AO C ns t3 W D Γ=(t3 Γ fun ds Γ1=>ds.length=ns.length∧W ⟨C,ns,ds⟩ Γ1):=rfl
def mC (o:Option Nat) (k:Nat→Prop) (_:Tag k):Prop:=∃ c,o=some c∧k c
theorem DI {z:Str} {i:Int}:ix3 (.str z) (.int i) Γ Q=(z.length≤sizeLine∧mC (atI z.cps.toList i) (fun c=>Q (.fz (.str ⟨#[c]⟩)) Γ) ⟨⟩):=rfl
end
def wB (b:Bool) (x y:Prop) (_:Tag (x,y)):Prop:=match b with
 | true=>x
 | false=>y
end L3
namespace L2
open PySem PySem.Spec PyProof.Rows
section
variable {X:Cx} {a b e:Expr} {ta tb te:TE} {rest es:List Expr} {pos:Pos}
def Fo:V→List V→Hp→VK→Prop:=fun x vs H Q=>∃ z n,x=.str z∧vs=[.int n]∧PadOk n=true∧Q (.str (Txt.zfill z n)) H
def Ft:V→List V→Hp→VK→Prop:=fun x vs H Q=>∃ z y i r,x=.str z∧vs=[.str y]∧Builtin.Str.occurrences z y 0 z.length 1=i::r∧Q (.int i) H
def He (ta tb:TE):TE:=fun σ H Q=>ta σ H fun x H1=>∃ z,x=.str z∧z.length≤sizeLine∧if z.length=0 then tb σ H1 Q else Q (.str z) H1
abbrev TJ:=St→Hp→Str→VK→Prop
def PJ (X:Cx) (es:List Expr) (t:TJ):Prop:=∀ (pins:List (Addr×Obj)) (s:Shared) (σ:St) (H:Hp) (out:Str) (Q:VK),Inv X pins σ H s→t σ H out Q→wpAny (model X.prog X.w) X.A (joinParts out (evalEach es X.env)) (EP X pins σ Q) X.xe s
def tJN:TJ:=fun _ H out Q=>out.length≤sizeLine∧Q (.str out) H
def tJC (te:TE) (t:TJ):TJ:=fun σ H out Q=>te σ H fun x H1=>∃ y,x=.str y∧(out++y).length≤sizeLine∧t σ H1 (out++y) Q
def tFv (te:TE):TE:=fun σ H Q=>te σ H fun x H1=>(∃ z,x=.str z∧z.length≤sizeLine∧Q (.str z) H1)∨∃ i,x=.int i∧i.natAbs.log2 < 1920∧Q (.str (toString i)) H1
theorem rM {k:Nat} (hr:cJ k X.A):cy X (.builtin "repr") (fun xs H Q=>(xs=[.non]∧Q (.str "None") H)∨(∃ c,xs=[.bl c]∧Q (.str (if c then "True" else "False")) H)∨(∃ i,xs=[.int i]∧i.natAbs.log2 < 1920∧Q (.str (toString i)) H)∨∃ z,xs=[.str z]∧(reprText z).length≤sizeLine∧Q (.str (reprText z)) H):=by
 intro pins s σ H xs us Q I r h
 rcases h with ⟨rfl,q⟩ | ⟨c,rfl,q⟩ | ⟨i,rfl,hi,q⟩ | ⟨z,rfl,hz,q⟩
 ·obtain⟨u,rfl,ru⟩:=vals1 r
  cases ru
  exact P.repr_of_none ⟨.str _,H,I.tok _,⟨_,rfl⟩,q⟩
 ·obtain⟨u,rfl,ru⟩:=vals1 r
  cases ru
  exact P.repr_of_bool ⟨.str _,H,I.tok _,⟨_,rfl⟩,q⟩
 ·obtain⟨u,rfl,ru⟩:=vals1 r
  obtain⟨t,rfl⟩:=ru
  exact P.repr_of_int hi ⟨.str _,H,I.tok _,⟨_,rfl⟩,q⟩
 ·obtain⟨u,rfl,ru⟩:=vals1 r
  obtain⟨t,rfl⟩:=ru
  exact P.repr_of_str ⟨.str _,H,I.tok _,⟨_,rfl⟩,q⟩ hz
end
end L2
namespace L3
open PySem L2
section
variable {K:PySem.W.Frag} {B:Bs} {F:Hp} {σ:L2.St} {H:Hp} {Γ:G} {X:Cx} {a b o e:Expr} {rest es:List Expr} {to te ta tb:TE} {e3 o3 a3 b3:TE3} {pos apos cpos:Pos}
def Hz (ds:List D) (Γ:G) (Q:RV→G→Prop):Prop:=match ds with
 | [.str z]=>z.length=1∧Q (.fz (.int (z.cps.getD 0 0:Nat))) Γ
 | _=>False
def oIn (d:D) (k:Int→Prop) (_:Tag k):Prop:=match d with
 | .int i=>k i
 | _=>False
def zf3 (o3 e3:TE3) (Γ:G) (Q:RV→G→Prop):Prop:=o3 Γ fun x Γ1=>oSt x.d (fun z=>e3 Γ1 fun r Γ2=>oIn r.d (fun n=>PadOk n=true∧Q (.fz (.str (Txt.zfill z n))) Γ2) ⟨⟩) ⟨⟩
def HC (o3 e3:TE3) (Γ:G) (Q:RV→G→Prop):Prop:=o3 Γ fun x Γ1=>oSt x.d (fun z=>e3 Γ1 fun r Γ2=>oSt r.d (fun y=>∃ i r,Builtin.Str.occurrences z y 0 z.length 1=i::r∧Q (.fz (.int i)) Γ2) ⟨⟩) ⟨⟩
def HA (a3 b3:TE3) (Γ:G) (Q:RV→G→Prop):Prop:=a3 Γ fun x Γ1=>oSt x.d (fun z=>z.length≤sizeLine∧(z.length=0→b3 Γ1 Q)∧(z.length≠0→Q (.fz (.str z)) Γ1)) ⟨⟩
abbrev TJ3:=Str→G→(RV→G→Prop)→Prop
structure P3J (K:PySem.W.Frag) (X:Cx) (es:List Expr) (t:TJ) (t3:TJ3):Prop where
 pe:PJ X es t
 rf:∀ (B:Bs) (F:Hp) (σ:L2.St) (H:Hp) (Γ:G) (out:Str) (Q:RV→G→Prop) (QQ:VK),En K B F σ H Γ→t3 out Γ Q→(∀ v H',Po K B F σ Q v H'→QQ v H')→t σ H out QQ
def jN3 (out:Str) (Γ:G) (Q:RV→G→Prop):Prop:=out.length≤sizeLine∧Q (.fz (.str out)) Γ
def jC3 (e3:TE3) (t3:TJ3) (out:Str) (Γ:G) (Q:RV→G→Prop):Prop:=e3 Γ fun x Γ1=>oSt x.d (fun y=>(out++y).length≤sizeLine∧t3 (out++y) Γ1 Q) ⟨⟩
def oFv (d:D) (k:Str→Prop) (_:Tag k):Prop:=match d with
 | .str z=>z.length≤sizeLine∧k z
 | .int i=>i.natAbs < 10 ^ 60∧k (itx i)
 | _=>False
def fv3 (e3:TE3) (Γ:G) (Q:RV→G→Prop):Prop:=e3 Γ fun x Γ1=>oFv x.d (fun z=>Q (.fz (.str z)) Γ1) ⟨⟩
def scl:D→Option Str
 | .non=>some "None"
 | .bl c=>some (if c then "True" else "False")
 | .int i=>some (itx i)
 | .str z=>some (reprText z)
 | _=>none
def rpr (d:D):Str:=(scl d).getD (shw d)
def okR (d:D):Prop:=(xH d=true∨d=.dct)∧Sh 10000000 20 d∨d=.non∨(∃ c,d=.bl c)∨(∃ i,d=.int i∧i.natAbs < 10 ^ 60)∨∃ z,d=.str z∧(reprText z).length≤sizeLine
def qI (ds:List D) (Γ:G) (Q:RV→G→Prop):Prop:=match ds with
 | [d]=>okR d∧Q (.fz (.str (rpr d))) Γ
 | _=>False
theorem eY {k:Nat} (hK:X.K=K) (hr:cJ k X.A):B3 K X (.builtin "repr") (fun xs H Q=>(∃ a d,xs=[.ref a]∧Dt K H (.ref a) d∧Shw d∧Q (.str d.shown) H)∨((xs=[.non]∧Q (.str "None") H)∨(∃ c,xs=[.bl c]∧Q (.str (if c then "True" else "False")) H)∨(∃ i,xs=[.int i]∧i.natAbs.log2 < 1920∧Q (.str (toString i)) H)∨∃ z,xs=[.str z]∧(reprText z).length≤sizeLine∧Q (.str (reprText z)) H)) qI:=
 ⟨by subst hK;exact cy.or (rN hr) (rM hr),by
 intro B F σ H Γ vs ds Q QQ e r q k
 unfold qI at q
 split at q
 ·obtain⟨hd,q⟩:=q
  obtain⟨v,rfl,h⟩:=r.one
  rcases hd with ⟨hs,sh⟩ | rfl | ⟨c,rfl⟩ | ⟨i,rfl,hi⟩ | ⟨z,rfl,hz⟩
  ·left
   have sp:=sh.spec
   have fin:Shw (dt _):=⟨sp.sh,sp.dp,by rw[sizeLine_eq];have:=sp.ln;omega⟩
   rename_i d
   rcases hs with hs | rfl
   ·obtain⟨a,rfl,hd⟩:=sh.dtB hs e.sub h
    have er:rpr d=shw d:=by cases d <;> first | rfl | cases hs
    rw[er] at q
    exact⟨a,_,rfl,hd,fin,k _ _ (hZ e q)⟩
   ·have h':Rep K F .dct v:=h
    have hd:=sp.dt e.sub h'
    obtain⟨p,rfl,_⟩:=h'
    exact⟨p,_,rfl,hd,fin,k _ _ (hZ e q)⟩
  ·cases h;exact .inr (.inl ⟨rfl,k _ _ (hZ e q)⟩)
  ·cases h;exact .inr (.inr (.inl ⟨c,rfl,k _ _ (hZ e q)⟩))
  ·cases h;exact .inr (.inr (.inr (.inl ⟨i,rfl,of_decide_eq_true (rz hi),k _ _ (hZ e q)⟩)))
  ·cases h;exact .inr (.inr (.inr (.inr ⟨z,rfl,hz,k _ _ (hZ e q)⟩)))
 ·exact q.elim⟩
end
end L3
namespace L2
open PySem PySem.Spec PyProof.Rows
section
variable {X:Cx} {pins:List (Addr×Obj)} {σ:St} {H:Hp} {s:Shared} {e C:Addr} {dx:Option Addr}
end
section
variable {X:Cx} {CX:CXT} {k:Nat} {f C:Addr} {fd:FuncData} {ps:List Str} {sp:Sp} {dvs:List V} {ds:List Value} {E':XK} {x:Str} {p cpos:Pos} {e:Expr} {es:List Expr} {t:TA}
def E2 (C:Addr) (sp:Sp) (dvs:List V) (E':XK) (t:TA):TE:=fun σ H Q=>t σ H fun vs H1=>∀ x,H1 x=none→sp (.ref x::(vs++dvs)) (upd H1 x (kU x C none)) (fun v H2=>v=.non∧∃ dx,H2 x=some (kU x C dx)∧Q (.ref x) (upd H2 x (zr x (.ref C) dx))) E'
end
end L2
namespace L3
open PySem L2 PySem.Spec PyProof.Rows
section
variable {K:PySem.W.Frag} {X:Cx} {B:Bs} {F0:Hp} {k:Nat} {f C:Addr} {fd:FuncData} {ps ns:List Str} {x:Str} {p cpos:Pos} {e:Expr} {es:List Expr} {t:TA} {t3:TA3}
def EU (C:Addr) (ns:List Str) (t3:TA3) (Γ:G) (Q:RV→G→Prop):Prop:=t3 Γ fun ds Γ1=>ds.length=ns.length∧Q (.fz (.exc C ns ds)) Γ1
end
section
variable {K:PySem.W.Frag} {X:Cx} {e:Expr} {te:TE} {e3:TE3}
def kpR (r:RV) (k:RV→Prop):Prop:=match r with
 | .fz (.lst xs)=>∀ p,k (.fz (.cel p xs))
 | r=>k r
def Gd (e3:TE3) (Γ:G) (Q:RV→G→Prop):Prop:=e3 Γ fun r Γ1=>kpR r fun r'=>Q r' Γ1
end
end L3
namespace L2
open PySem PySem.Spec PyProof.Rows
structure Gv (K:PySem.W.Frag) (U C:Addr):Prop where
 mro:∃ cd rest,PySem.W.clsIn K C=some cd∧cd.mro=.ref C::rest∧rest.all (fun v=>match v with | .ref a=>a == U | .type _=>true | _=>false)=true∧(C=U∨Value.ref U∈rest)∧Value.type "ValueError"∈rest
 ty:PySem.W.typeIn K (.ref C)=some (.type "type")
section
variable {K:PySem.W.Frag} {U C D:Addr}
end
structure HI (K:PySem.W.Frag) (U C f:Addr) (ns:List Str):Prop where
 xm:XMk K C f
 cl:EA K C
 is:XIs K C
 un:Gv K U C
 na:∀ n∈ns,eg K C n
 tk:∀ n∈ns,PySem.W.takerIn K C n=some none
def EW (K:PySem.W.Frag) (U C:Addr):Bool:=match PySem.W.clsIn K C with
 | none=>false
 | some cd=>match cd.mro with
  | .ref c::rest=>c == C && rest.all (fun v=>match v with | .ref a=>a == U | .type _=>true | _=>false) && (C == U || rest.contains (.ref U)) && rest.contains (.type "ValueError")
  | _=>false
def xoB (K:PySem.W.Frag) (U C f:Addr) (ns:List Str):Bool:=
 jC K C "ValueError" "ValueError.__new__" && PySem.W.findIn K (.ref C) "__init__" == some (some (.ref f)) && PySem.W.isFn K (.ref f) && PySem.W.keepIn K (.ref C) && PySem.W.hasDictIn K C && (PySem.W.clsIn K C).any (fun cd=>qx cd.mro)
 && PySem.W.findIn K (.ref C) "__setattr__" == some (some (.builtin "object.__setattr__")) && PySem.W.findIn K (.ref C) "__getattribute__" == some (some (.builtin "BaseException.__getattribute__")) && PySem.W.findIn K (.ref C) "__getattr__" == some none
 && PySem.W.mroIn K C (.type "BaseException") == some true && PySem.W.findIn K (.ref C) "__class__" == some (some (.builtin "object.__class__")) && PySem.W.specialIn K (.builtin "object.__class__") "__get__" == some (some (.builtin "getset_descriptor.__get__"))
 && PySem.W.takesIn K (.builtin "object.__class__") == some true && PySem.W.mroIn K C (.type "object") == some true && EW K U C && PySem.W.typeIn K (.ref C) == some (.type "type")
 && ns.all (fun n=>PySem.W.findIn K (.ref C) n == some none && PySem.W.takerIn K C n == some none)
def FD:List Addr→Bool
 | []=>true
 | x::xs=>xs.all (fun y=>!(x == y)) && FD xs
end L2
namespace L3
open PySem L2 PySem.Spec PyProof.Rows
section
variable {K:PySem.W.Frag} {X:Cx} {k:Nat} {f C:Addr} {fd:FuncData} {ps:List Str} {x:Str} {p cpos:Pos} {e:Expr} {es:List Expr} {t:TA} {t3:TA3}
def CF (C:Addr) (t3:TA3) (Γ:G) (Q:RV→G→Prop):Prop:=t3 Γ fun ds Γ1=>ds.length=1∧Q (.fz (.exc C [] [])) Γ1
end
section
variable {K:PySem.W.Frag} {X:Cx} {pos p1 p2:Pos} {x y:Str}
def F8 (i j:Nat) (Γ:G) (Q:RV→G→Prop):Prop:=∃ z n,Γ[i]?=some (some (.fz (.str z)))∧Γ[j]?=some (some (.fz (.int n)))∧Q (.fz (.dcs z n)) Γ
end
section
variable {K:PySem.W.Frag} {X:Cx} {F:Hp} {a b:Expr} {ta tb:TE} {a3 b3:TB3} {pos:Pos}
def DB (x y:D) (Γ:G) (Q:RV→G→Prop):Prop:=match x,y with
 | .lst xs,.int n=>(0≤n∧n≤1000∧xs.length * n.toNat≤sizeLine)∧Q (.fr (.lst (List.replicate n.toNat xs).flatten)) Γ
 | _,_=>False
end
end L3
namespace L2
open PySem PySem.Spec PyProof.Rows
def xp (X:Cx) (L:Nat):Prop:=∀ (i:Nat) (x:Str),L≤i→X.N[i]?=some x→¬ Vis X.env.scope x
def Gh (L:Nat) (σ σ':St):Prop:=σ'.length=σ.length∧∀ i,i < L→σ'[i]?=σ[i]?
def tGh (L:Nat) (t:TS):TS:=fun D σ H=>∃ σ',Gh L σ σ'∧t D σ' H
section
variable {X:Cx} {pins:List (Addr×Obj)} {σ σ':St} {H:Hp} {s:Shared} {L:Nat} {st:Stmt} {ss:List Stmt} {t:TS}
theorem Inv.ghost (I:Inv X pins σ H s) (P:xp X L) (g:Gh L σ σ'):Inv X pins σ' H s:=
 ⟨I.ok,I.os,I.bare,I.base,let ⟨m,hn,hl'⟩:=I.loc;⟨m,hn,fun i x v e1 e2 e3=>by
  by_cases lt:i < L
  ·exact hl' i x v e1 (by rw[← g.2 i lt];exact e2) e3
  ·exact absurd e3 (P i x (Nat.le_of_not_lt lt) e1)⟩,I.cell,I.free,I.freeC,I.pin,I.hok,g.1.trans I.len⟩
theorem qK (P:xp X L) (h:PSs X ss t):PSs X ss (tGh L t):=fun pins s σ H D I ⟨σ',g,q⟩=>h pins s σ' H D (I.ghost P g) q
def lT (N:List Str) (sc:Scope) (L:Nat):Bool:=(N.drop L).all fun x=>(sc.names.lookup x).isNone
theorem iN {N:List Str} (hN:X.N=N) (h:lT N X.env.scope L=true):xp X L:=fun i x le e v=>by
 subst hN
 unfold lT at h
 rw[List.all_eq_true] at h
 have m:x∈X.N.drop L:=by
  have:(X.N.drop L)[i - L]?=some x:=by rw[List.getElem?_drop,Nat.add_sub_cancel' le];exact e
  exact List.mem_of_getElem? this
 have:=h x m
 rcases v with v | v | v <;> rw[v] at this <;> cases this
end
end L2
namespace L3
open PySem L2 PySem.Spec PyProof.Rows
section
variable {K:PySem.W.Frag} {X:Cx} {B:Bs} {F F':Hp} {σ σ':L2.St} {H:Hp} {Γ Γ':G} {pos:Pos}
def Wk (K:PySem.W.Frag) (Γ Γ':G):Prop:=∀ (B:Bs) (F:Hp) (σ:L2.St) (H:Hp),En K B F σ H Γ→∃ F',aE F F'∧En K B F' σ H Γ'
theorem Wk.refl:Wk K Γ Γ:=fun B F σ H e=>⟨F,aE.refl F,e⟩
def wk3 (K:PySem.W.Frag) (t3:TS3) (D:E3) (Γ:G):Prop:=∃ Γ',Wk K Γ Γ'∧t3 D Γ'
theorem sA {ss:List Stmt} {t:TS} {t3:TS3} (h:jB K X ss t t3):jB K X ss t (wk3 K t3):=⟨h.pe,fun B F σ H Γ D D3 e k ⟨Γ',w,q⟩=>by
 obtain⟨F1,s1,e1⟩:=w B F σ H e
 exact h.rf B F1 σ H Γ' D D3 e1 (k.mono s1) q⟩
theorem En.sw (e:En K B F σ H Γ) (hl:σ'.length=σ.length) (h:∀ (i:Nat) (s:Sl),Γ[i]?=some (some s)→σ'[i]?=σ[i]?):En K B F σ' H Γ where
 sub:=e.sub
 len:=hl.trans e.len
 fz:=fun i d q=>by rw[h i _ q];exact e.fz i d q
 hl:=fun i d q=>by
  rcases q with q | q
  ·rw[h i _ q];exact e.hl i d (.inl q)
  ·rw[h i _ q];exact e.hl i d (.inr q)
 ow:=fun i d p q a=>by rw[h i _ q] at a;exact e.ow i d p q a
 ln:=fun i d p q a=>by rw[h i _ q] at a;exact e.ln i d p q a
 dis:=fun i j d d' p q1 q2 a1 a2=>by
  have b1:σ[i]?=some (some (V.ref p)):=by rcases q1 with q | q <;> rw[h i _ q] at a1 <;> exact a1
  have b2:σ[j]?=some (some (V.ref p)):=by rcases q2 with q | q <;> rw[h j _ q] at a2 <;> exact a2
  exact e.dis i j d d' p q1 q2 b1 b2
 par:=fun i p q=>by
  obtain⟨a,d,b⟩:=e.par i p q
  exact⟨by rw[h i _ b];exact a,d,b⟩
 keep:=e.keep
 new:=e.new
 rest:=e.rest
 dom:=e.dom
theorem En.Fn (e:En K B F σ H Γ) {i:Nat} {d d':D} (h:Γ[i]?=some (some (Sl.fz d))) (r:∀ v,σ[i]?=some (some v)→Rep K F d' v):En K B F σ H (Γ.set i (some (Sl.fz d'))):=by
 have il:i < Γ.length:=(List.getElem?_eq_some_iff.mp h).1
 have gt:∀ {j:Nat} {s:Sl},(Γ.set i (some (Sl.fz d')))[j]?=some (some s)→(j=i∧s=.fz d')∨(j≠i∧Γ[j]?=some (some s)):=fun {j s} q=>by
  by_cases z:j=i
  ·subst z;rw[au il] at q;cases q;exact .inl ⟨rfl,rfl⟩
  ·rw[aw (Ne.symm z)] at q;exact .inr ⟨z,q⟩
 have hld:∀ {j:Nat} {x:D},Hld (Γ.set i (some (Sl.fz d'))) j x→Hld Γ j x:=fun {j x} q=>by
  rcases q with q | q <;> rcases gt q with ⟨_,z⟩ | ⟨_,z⟩
  ·cases z
  ·exact .inl z
  ·cases z
  ·exact .inr z
 refine⟨e.sub,by rw[List.length_set];exact e.len,fun j x q=>?_,fun j x q=>e.hl j x (hld q),fun j x p q a=>?_,fun j x p q a=>?_,fun j k x y p q1 q2=>e.dis j k x y p (hld q1) (hld q2),fun j p q=>?_,e.keep,e.new,e.rest,e.dom⟩
 ·rcases gt q with ⟨rfl,z⟩ | ⟨_,z⟩
  ·cases z
   obtain⟨v,a,_⟩:=e.fz _ _ h
   exact⟨v,a,r v a⟩
  ·exact e.fz j x z
 ·rcases gt q with ⟨_,z⟩ | ⟨_,z⟩
  ·cases z
  ·exact e.ow j x p z a
 ·rcases gt q with ⟨_,z⟩ | ⟨_,z⟩
  ·cases z
  ·exact e.ln j x p z a
 ·obtain⟨a,x,b⟩:=e.par j p q
  have z:i≠j:=fun z=>by subst z;rw[h] at b;cases b
  exact⟨a,x,by rw[aw z];exact b⟩
theorem En.adr (e:En K B F σ H Γ) {i:Nat} {q:Addr} {xs:List D} (h:Hld Γ i (.cel q xs)):σ[i]?=some (some (V.ref q))∧F q=none∧∃ vs,H q=some (.lst vs)∧av K F xs vs:=by
 obtain⟨p,a,b,rfl,vs,c,d⟩:=e.hl i _ h
 exact⟨a,b,vs,c,d⟩
end
end L3
namespace L3
open PySem L2 PySem.Spec PyProof.Rows
section
variable {K:PySem.W.Frag} {X:Cx} {B:Bs} {F F':Hp} {σ σ':L2.St} {H:Hp} {Γ Γ':G} {pos:Pos}
def zl (r:RV) (k:Addr→Prop):Prop:=match r with
 | .fz (.adr q)=>k q
 | _=>False
theorem zk {r:RV} {k:Addr→Prop} (h:zl r k):∃ q,r=.fz (.adr q)∧k q:=by
 cases r with
 | fz d=>cases d <;> first | exact h.elim | exact⟨_,rfl,h⟩
 | fr _=>exact h.elim
 | two _ _=>exact h.elim
 | rws _=>exact h.elim
def qG (r:RV) (k:List (List D)→Prop):Prop:=match r with
 | .rws xss=>k xss
 | _=>False
theorem n3 {r:RV} {k:List (List D)→Prop} (h:qG r k):∃ xss,r=.rws xss∧k xss:=by
 cases r with
 | rws xss=>exact⟨_,rfl,h⟩
 | fz _=>exact h.elim
 | fr _=>exact h.elim
 | two _ _=>exact h.elim
def vB (b:Bo) (k:Nat→Prop):Prop:=match b with
 | .v j=>k j
 | .d _=>False
def xb (e3:TE3) (Γ:G) (Q:Bo→G→Prop):Prop:=e3 Γ fun r Γ1=>zl r fun q=>∃ j xs,Hld Γ1 j (.cel q xs)∧Q (.v j) Γ1
theorem bA {e:Expr} {te:TE} {e3:TE3} (h:P3 K X e te e3):P3B K X e te (xb e3):=⟨h.pe,by
 intro B F σ H Γ Q QQ en q k
 refine h.rf B F σ H Γ _ _ en q fun v H1 ⟨F1,Γ1,r,s1,e1,rv,q1⟩=>?_
 obtain⟨q',rfl,j,xs,hj,q1⟩:=zk q1
 have hv:v=.ref q':=rv
 subst hv
 exact k _ _ ⟨F1,Γ1,.v j,s1,e1,(e1.adr hj).1,q1⟩⟩
def iT (Γ:G) (j:Nat) (xs:List D):G:=match Γ[j]? with
 | some (some (.ow (.cel q _)))=>Γ.set j (some (.ow (.cel q xs)))
 | some (some (.ln (.cel q _)))=>Γ.set j (some (.ln (.cel q xs)))
 | _=>Γ
theorem xW {j:Nat} {q:Addr} {xs ys:List D} (h:Hld Γ j (.cel q xs)):iT Γ j ys=putD Γ j (.cel q ys):=by
 rcases h with h | h <;> unfold iT putD <;> rw[h]
theorem En.Dz (e:En K B F σ H Γ) {j:Nat} {q:Addr} {xs ys:List D} {ws:List V} (h:Hld Γ j (.cel q xs)) (r:av K F ys ws):En K B F σ (upd H q (.lst ws)) (iT Γ j ys):=by
 rw[xW h]
 exact e.Dy h (e.adr h).1 ⟨rfl,ws,aD,r⟩
variable {o k e:Expr} {to tk te:TE} {o3 k3:TB3} {e3:TE3} {p2 apos cpos:Pos}
def zz (o3 k3:TB3) (e3:TE3) (D:E3) (Γ:G):Prop:=e3 Γ fun r Γ1=>o3 Γ1 fun bo Γ2=>vB bo fun j=>k3 Γ2 fun b Γ3=>∃ q xs k n,Hld Γ3 j (.cel q xs)∧b.at Γ3=some (.int k)∧ixN xs.length k=some n∧D.nx (iT Γ3 j (xs.set n r.d))
theorem sv (ho:P3B K X o to o3) (hk:P3B K X k tk k3) (he:P3 K X e te e3)
  (ha:∀ v,assign (.Subscript o k p2) X.env v=(do
   let ov ← holding [v] (eval o X.env)
   let iv ← holding [v,ov] (eval k X.env)
   standAt p2
   holding [v,ov,iv] (setItem ov iv v)
   release [v,ov,iv] []):=by intro _;rfl)
  (hs:swapsWithSole [.Subscript o k p2] e pos.line X.env=pure false:=by rfl) (hw:swappedStores [.Subscript o k p2] e X.env=pure none:=by rfl)
  (h1:(assignEach [.Subscript o k p2] X.env).map (·.2)=[assign (.Subscript o k p2) X.env]:=by rfl) :
  P3S K X (.Assign [.Subscript o k p2] e pos) (j6 te (wA to tk pw)) (zz o3 k3 e3):=⟨qN he.pe (vt ho.pe hk.pe set_list ha) hs hw h1,fun B F σ H Γ D D3 en kk q=>
 he.rf B F σ H Γ _ _ en q fun v H' ⟨F',Γ',r,s,e',rv,q'⟩=>by
  obtain⟨F2,s2,e2,r2⟩:=e'.frozen rv
  refine ho.rf B F2 σ H' Γ' _ _ e2 q' fun w H2 ⟨F3,Γ3,bo,s3,e3,rb,q3⟩=>?_
  cases bo with
  | d _=>exact q3.elim
  | v j=>
   refine hk.rf B F3 σ H2 Γ3 _ _ e3 q3 fun u H3 ⟨F4,Γ4,b4,s4,e4,rb4,q0,xs,kk',n,hj,hb,hn,q4⟩=>?_
   obtain⟨a1,a2,vs,a3,a4⟩:=e4.adr hj
   have hw:σ[j]?=some (some w):=rb
   rw[a1] at hw
   cases hw
   have hu:u=.int kk':=e4.bo rb4 hb
   exact⟨q0,vs,kk',n,rfl,hu,a3,by rw[a4.length];exact hn,kk.nx F4 σ _ _ (((s.trans s2).trans s3).trans s4) (e4.Dz hj (av.set (r2.mono (s3.trans s4)) n a4)) q4⟩⟩
def tJ (o3:TB3) (e3:TE3) (Γ:G) (Q:RV→G→Prop):Prop:=o3 Γ fun bo Γ1=>vB bo fun j=>(∃ q xs,Hld Γ1 j (.cel q xs))∧e3 Γ1 fun r Γ2=>∃ q xs,Hld Γ2 j (.cel q xs)∧xs.length < sizeLine∧Q (.fz .non) (iT Γ2 j (xs++[r.d]))
theorem sL (hK:X.K=K) (ho:P3B K X o to o3) (he:P3 K X e te e3) (hbase:attributeBase o "append" X.env (eval o X.env)=eval o X.env:=by rfl)
  (hfew:((backTo cpos (starEach [e] X.env)).all (fun x=>!x.1) && (backToKw cpos (keywordEach [] X.env)).all (fun x=>x.1.isSome)
   && decide ([e].length + ([]:List Keyword).length + (if ([]:List Keyword).isEmpty then 0 else 1) < 30))=true:=by rfl)
  (hline:(apos.endLine == cpos.line)=true:=by rfl) (hs:starEach [e] X.env=(false,eval e X.env)::starEach [] X.env:=by rfl) (hplain:(backTo cpos (starEach [] X.env)).any (·.1)=false:=by rfl) :
  P3 K X (.Call (.Attribute o "append" apos) [e] [] cpos) (tBM K "list" kZ to (gg te kL)) (tJ o3 e3):=
 ⟨by subst hK;exact sH PySem.F.plainAttrs_list PySem.F.slot_list_append PySem.F.type_list_append nz ho.pe (eW he.pe jg hs) hbase hfew hline hs hplain,by
 intro B F σ H Γ Q QQ en q kk
 refine ho.rf B F σ H Γ _ _ en q fun w H1 ⟨F1,Γ1,bo,s1,e1,rb,q1⟩=>?_
 cases bo with
 | d _=>exact q1.elim
 | v j=>
  obtain⟨⟨q0,xs0,hj0⟩,q1⟩:=q1
  obtain⟨a1,_,vs0,a3,_⟩:=e1.adr hj0
  have hw:σ[j]?=some (some w):=rb
  rw[a1] at hw
  cases hw
  refine⟨gx a3,he.rf B F1 σ H1 Γ1 _ _ e1 q1 fun v H2 ⟨F2,Γ2,r,s2,e2,rv,q3,xs,hj,hz,q2⟩=>?_⟩
  obtain⟨F3,s3,e3,r3⟩:=e2.frozen rv
  obtain⟨b1,_,vs,b3,b4⟩:=e3.adr hj
  rw[a1] at b1
  cases b1
  exact⟨q0,vs,v,rfl,rfl,b3,by rw[b4.length];exact hz,kk _ _ ⟨F3,_,.fz .non,(s1.trans s2).trans s3,e3.Dz hj (av.append (ys:=[r.d]) b4 ⟨v,[],rfl,r3,rfl⟩),rfl,q2⟩⟩⟩
def wF (o3:TB3) (g3:TG3) (b3:TS3) (D:E3) (Γ:G):Prop:=o3 Γ fun bo Γ1=>vB bo fun j=>∃ q,(∃ xs,Hld Γ1 j (.cel q xs))∧∃ (n:Nat) (Iv:Nat→G→Prop),Iv 0 Γ1∧
 (∀ k Γ,k < n→Iv k Γ→∃ xs d,Hld Γ j (.cel q xs)∧xs[k]?=some d∧g3 d Γ fun Γ'=>b3 { D with nx:=Iv (k + 1),ct:=Iv (k + 1),bk:=D.nx } Γ')∧∀ Γ,Iv n Γ→(∃ xs,Hld Γ j (.cel q xs)∧xs.length=n)∧D.nx Γ
theorem xM {tg:Expr} {body:List Stmt} {g:TG} {g3:TG3} {tb:TS} {b3:TS3} (hK:X.K=K) (hp:PassesOwn (model X.prog X.w) X.A X.env X.xe) (hc:X.calm=true) (ho:P3B K X o to o3) (hg:P3G K X tg g g3) (hb:jB K X body tb b3) (hs:∀ x,foldedSetIterable o X.env x=pure x:=by intro _;rfl) :
  P3S K X (.For tg o body [] pos) (xy (sW K to) g tb) (wF o3 g3 b3):=⟨by subst hK;exact qM hp hc (oa ho.pe) hg.pe hb.pe hs,fun B F σ H Γ D D3 en k q=>by
 refine ho.rf B F σ H Γ _ _ en q fun w H1 ⟨F1,Γ1,bo,s1,e1,rb,q1⟩=>?_
 cases bo with
 | d _=>exact q1.elim
 | v j=>
  obtain⟨q0,⟨xs0,hj0⟩,n,Iv,i0,it,ie⟩:=q1
  obtain⟨a1,_,vs0,a3,_⟩:=e1.adr hj0
  have hw:σ[j]?=some (some w):=rb
  rw[a1] at hw
  cases hw
  refine⟨q0,rfl,⟨_,SqL.of a3⟩,fun i m σ H=>m=n - i∧i≤n∧∃ F' Γ',aE F1 F'∧En K B F' σ H Γ'∧Iv i Γ',⟨_,rfl,Nat.zero_le _,F1,Γ1,aE.refl _,e1,i0⟩,?_⟩
  rintro i m σ2 H2 ⟨rfl,hi',F2,Γ2,s2,e2,iv⟩
  by_cases lt:i < n
  ·obtain⟨xs,d,hj,hd,q4⟩:=it i Γ2 lt iv
   obtain⟨_,_,vs,c3,c4⟩:=e2.adr hj
   obtain⟨v,hv,rv⟩:=c4.get hd
   refine .inr ⟨⟨vs,v,SqL.of c3,hv⟩,fun σ' H'=>∃ F' Γ',aE F1 F'∧En K B F' σ' H' Γ'∧Iv (i + 1) Γ',fun σ' H' ⟨F',Γ',a,b,c⟩=>⟨n - (i + 1),by omega,rfl,lt,F',Γ',a,b,c⟩,fun x H3 y=>?_⟩
   obtain⟨rfl,y⟩:=y
   have:=y vs (SqL.of c3)
   rw[hv] at this
   cases this
   refine hg.rf B F2 σ2 H3 Γ2 v _ _ _ e2 rv q4 fun σ' Γ' e4 q4=>?_
   exact hb.rf B F2 σ' H3 Γ' _ { D3 with nx:=Iv (i + 1),ct:=Iv (i + 1),bk:=D3.nx } e4 ⟨fun F' σ' H' Γ' s e q=>⟨F',Γ',s2.trans s,e,q⟩,fun F' σ' H' Γ' v r s e rv q=>k.rt F' σ' H' Γ' v r ((s1.trans s2).trans s) e rv q,fun F' σ' H' Γ' s e q=>k.nx F' σ' H' Γ' ((s1.trans s2).trans s) e q,fun F' σ' H' Γ' s e q=>⟨F',Γ',s2.trans s,e,q⟩⟩ q4
  ·have z:i=n:=by omega
   subst z
   obtain⟨⟨xs,hj,hl⟩,qn⟩:=ie Γ2 iv
   obtain⟨_,_,vs,c3,c4⟩:=e2.adr hj
   exact .inl ⟨⟨vs,SqL.of c3,by rw[c4.length];omega⟩,k.nx F2 σ2 H2 Γ2 (s1.trans s2) e2 qn⟩⟩
def jD (σ:L2.St) (g:Nat):List Addr→L2.St
 | []=>σ
 | q::qs=>jD (σ.set g (some (V.ref q))) (g + 1) qs
def ff (Γ:G) (g:Nat):List Addr→List (List D)→G
 | q::qs,xs::xss=>ff (Γ.set g (some (.ow (.cel q xs)))) (g + 1) qs xss
 | _,_=>Γ
theorem j7:∀ {qs:List Addr} {σ:L2.St} {g:Nat},(jD σ g qs).length=σ.length
 | [],_,_=>rfl
 | q::qs,σ,g=>by unfold jD;rw[j7,List.length_set]
theorem lJ:∀ {qs:List Addr} {σ:L2.St} {g i:Nat},i < g→(jD σ g qs)[i]?=σ[i]?
 | [],_,_,_,_=>rfl
 | q::qs,σ,g,i,h=>by unfold jD;rw[lJ (Nat.lt_succ_of_lt h),aw (Nat.ne_of_gt h)]
theorem uU {qs:List Addr} {g L:Nat} (h:L≤g):Gh L σ (jD σ g qs):=⟨j7,fun i lt=>lJ (Nat.lt_of_lt_of_le lt h)⟩
theorem En.rE:∀ {qs:List Addr} {xss:List (List D)} {g:Nat} {σ:L2.St} {Γ:G},En K B F σ H Γ→dd K F H qs xss→qs.Nodup→(∀ z,z∈qs→F z=none∧B.H z=none∧∀ (i:Nat) (e:D),Hld Γ i e→σ[i]?≠some (some (V.ref z)))→
  (∀ k,k < qs.length→Γ[g + k]?=some none)→En K B F (jD σ g qs) H (ff Γ g qs xss)
 | [],_,_,_,_,e,h,_,_,_=>by cases h;exact e
 | q::qs,_,g,σ,Γ,e,⟨xs,xt,vs,h1,h2,h3,h4⟩,nd,hn,hf=>by
  subst h1
  obtain⟨n1,n2⟩:=List.nodup_cons.mp nd
  obtain⟨a1,a2,a3⟩:=hn q (.head _)
  have fg:Γ[g]?=some none:=hf 0 (Nat.succ_pos _)
  have fr:bc Γ g:=by unfold bc;rw[fg];trivial
  have e1:=e.set (r:=.fr (.cel q xs)) fr ⟨q,rfl,a1,⟨rfl,vs,h2,h3⟩,a2,a3⟩
  have il:=iu fr
  have is:g < σ.length:=by rw[e.len];exact il
  refine En.rE (qs:=qs) e1 h4 n2 (fun z hz=>?_) fun k hk=>?_
  ·obtain⟨b1,b2,b3⟩:=hn z (.tail _ hz)
   refine⟨b1,b2,fun i d hi=>?_⟩
   by_cases w:i=g
   ·subst w
    rw[au is]
    intro y
    cases y
    exact n1 hz
   ·rw[aw (Ne.symm w)]
    exact b3 i d (by unfold Hld at hi ⊢;rw[aw (Ne.symm w)] at hi;exact hi)
  ·rw[aw (by omega),show g + 1 + k=g + (k + 1) by omega]
   exact hf (k + 1) (Nat.succ_lt_succ hk)
theorem lO:∀ {qs:List Addr},av K F (qs.map D.adr) (qs.map V.ref)
 | []=>rfl
 | _::_=>⟨_,_,rfl,rfl,lO⟩
theorem dd.length:∀ {qs:List Addr} {xss:List (List D)},dd K F H qs xss→qs.length=xss.length
 | [],_,h=>by cases h;rfl
 | _::_,_,⟨xs,xt,vs,h1,_,_,h4⟩=>by subst h1;simp [h4.length]
def zy (g i:Nat) (e3:TE3) (u3:TS3) (D:E3) (Γ:G):Prop:=e3 Γ fun r Γ1=>qG r fun xss=>bc Γ1 i∧(∀ k,k < xss.length + 1→Γ1[g + k]?=some none)∧∀ p qs,qs.length=xss.length→u3 D (ff (Γ1.set i (some (.fz (.adr p)))) g (p::qs) (qs.map .adr::xss))
theorem k_ {x:Str} {px:Pos} {rest:List Stmt} {u:TS} {u3 x3:TS3} (L g i:Nat) (hL:L≤g) (hi:i < L) (P:xp X L) (hs:P3S K X (.Assign [.Name x px] e pos) (j6 te (g0 i)) x3) (he:P3 K X e te e3) (h2:jB K X rest u u3) :
  jB K X (.Assign [.Name x px] e pos::rest) (Aw (j6 te (g0 i)) (tGh L u)) (zy g i e3 u3):=⟨pB hs.pe (qK P h2.pe),fun B F σ H Γ D D3 e k q=>he.rf B F σ H Γ _ _ e q fun v H' ⟨F',Γ',r,s,e',rv,q'⟩=>by
  obtain⟨xss,rfl,hf,hfree,q'⟩:=n3 q'
  obtain⟨p,qs,rfl,h1,h2',h3,h4⟩:=rv
  have e1:=e'.set (r:=.fz (.adr p)) hf rfl
  have il:=iu hf
  have e2:=e1.rE (g:=g) (qs:=p::qs) (xss:=qs.map .adr::xss) ⟨_,_,_,rfl,h1,lO,h3⟩ h2' (fun z hz=>⟨(h4 z hz).1,(h4 z hz).2.1,fun j d hj=>by
   by_cases w:j=i
   ·subst w
    rcases hj with hj | hj <;> rw[au il] at hj <;> cases hj
   ·rw[aw (Ne.symm w)]
    exact(h4 z hz).2.2 j d (by unfold Hld at hj ⊢;rw[aw (Ne.symm w)] at hj;exact hj)⟩) fun k hk=>by
   rw[aw (by omega)]
   exact hfree k (by rw[← h3.length];exact hk)
  exact⟨_,uU hL,h2.rf B F' _ H' _ D D3 e2 (k.mono s) (q' p qs h3.length)⟩⟩
end
end L3
namespace L3
open PySem L2 PySem.Spec PyProof.Rows
def Bs.kR (B:Bs):List (Addr×HO)→Bs
 | []=>B
 | (q,o)::l=>(Bs.kR B l).hid q o
section
variable {K:PySem.W.Frag} {X:Cx} {B:Bs} {F F':Hp} {σ σ':L2.St} {H:Hp} {Γ Γ':G} {pos:Pos}
theorem wm:∀ {l:List (Addr×HO)},(B.kR l).F=B.F
 | []=>rfl
 | _::l=>wm (l:=l)
theorem p4:∀ {l:List (Addr×HO)},(B.kR l).own=B.own
 | []=>rfl
 | _::l=>p4 (l:=l)
theorem sY:∀ {l:List (Addr×HO)} {q:Addr},(B.kR l).H q=none→B.H q=none∧q∉l.map (·.1)
 | [],q,h=>⟨h,by simp⟩
 | (z,o)::l,q,h=>by
  have h:upd (B.kR l).H z o q=none:=h
  have ne:q≠z:=fun w=>by rw[w,aD] at h;cases h
  rw[ak ne] at h
  obtain⟨a,b⟩:=sY h
  exact⟨a,by rw[List.map_cons,List.mem_cons,not_or];exact⟨ne,b⟩⟩
theorem nD:∀ {l:List (Addr×HO)} {q:Addr},B.H q=none→q∉l.map (·.1)→(B.kR l).H q=none
 | [],q,h,_=>h
 | (z,o)::l,q,h,n=>by
  rw[List.map_cons,List.mem_cons,not_or] at n
  show upd (B.kR l).H z o q=none
  rw[ak n.1]
  exact nD h n.2
theorem En.se:∀ {l:List (Addr×HO)},En K (B.kR l) F σ H Γ→(l.map (·.1)).Nodup→(∀ z,z∈l→B.H z.1=none∧B.F z.1=none∧∀ i,(i,z.1)∉B.own)→
  En K B F σ H Γ∧∀ z,z∈l→H z.1=some z.2∧F z.1=none∧∀ (i:Nat) (d:D),Hld Γ i d→σ[i]?≠some (some (V.ref z.1))
 | [],e,_,_=>⟨e,fun _ h=>nomatch h⟩
 | (q,o)::l,e,nd,hn=>by
  rw[List.map_cons,List.nodup_cons] at nd
  obtain⟨b1,b2,b3⟩:=hn (q,o) (.head _)
  obtain⟨e1,h1,f1,n1⟩:=En.Aq (B:=B.kR l) e (nD b1 nd.1) (by rw[wm];exact b2) (by rw[p4];exact b3)
  obtain⟨e2,k2⟩:=En.se e1 nd.2 fun z hz=>hn z (.tail _ hz)
  refine⟨e2,fun z hz=>?_⟩
  rcases List.mem_cons.mp hz with rfl | hz
  ·exact⟨h1,f1,n1⟩
  ·exact k2 z hz
def oO (fr:List (Option Nat)) (i3:TI3) (g3:TG3) (e3:TE3) (Γ:G) (Q:RV→G→Prop):Prop:=i3 Γ fun xs Γ1=>xs.length < sizeLine∧∃ Iv:Nat→List (List D)→G→Prop,Iv 0 [] (cC Γ1 (cW fr))∧
 (∀ k d ys Γc,xs[k]?=some d→ys.length=k→Iv k ys Γc→g3 d Γc fun Γ2=>e3 Γ2 fun r Γ3=>frL r fun zs=>Iv (k + 1) (ys++[zs]) Γ3)∧∀ ys Γc,ys.length=xs.length→Iv xs.length ys Γc→Q (.rws ys) (aT fr Γ1 Γc)
theorem dd.snoc:∀ {qs:List Addr} {xss:List (List D)} {q:Addr} {xs:List D} {vs:List V},dd K F H qs xss→H q=some (.lst vs)→av K F xs vs→dd K F H (qs++[q]) (xss++[xs])
 | [],_,q,xs,vs,h,h1,h2=>by cases h;exact⟨xs,[],vs,rfl,h1,h2,rfl⟩
 | _::_,_,q,xs,vs,⟨ys,yt,ws,a1,a2,a3,a4⟩,h1,h2=>by subst a1;exact⟨ys,_,ws,rfl,a2,a3,dd.snoc a4 h1 h2⟩
def j1 (K:PySem.W.Frag) (F:Hp):List (Addr×HO)→List (List D)→Prop
 | [],xss=>xss=[]
 | z::l,xss=>∃ xs xt vs,xss=xt++[xs]∧z.2=.lst vs∧av K F xs vs∧j1 K F l xt
theorem j1.mono (s:aE F F'):∀ {l:List (Addr×HO)} {xss:List (List D)},j1 K F l xss→j1 K F' l xss
 | [],_,h=>h
 | _::_,_,⟨xs,xt,vs,h1,h2,h3,h4⟩=>⟨xs,xt,vs,h1,h2,h3.mono s,j1.mono s h4⟩
theorem j1.at:∀ {l:List (Addr×HO)} {xss:List (List D)},j1 K F l xss→(∀ z,z∈l→H z.1=some z.2)→dd K F H (l.map (·.1)).reverse xss
 | [],_,h,_=>h
 | z::l,_,⟨xs,xt,vs,h1,h2,h3,h4⟩,hH=>by
  subst h1
  rw[List.map_cons,List.reverse_cons]
  exact(j1.at h4 fun y hy=>hH y (.tail _ hy)).snoc (by rw[hH z (.head _),h2]) h3
theorem tV {fr:List (Option Nat)} {wi:TI} {i3:TI3} {g:TG} {g3:TG3} {te:TE} {e3:TE3} (nd:(fr.filterMap id).Nodup) (hi:xo K wi i3) (hg:uA K g g3) (he:Ref K te e3):Ref K (lF fr wi g te) (oO fr i3 g3 e3):=by
 intro B F σ H Γ Q QQ e q k
 refine hi B F σ H Γ _ _ e q fun J H1 F1 Γ1 xs s1 e1 R ⟨hz,Iv,i0,it,ie⟩=>?_
 have eb:=e1.blk nd
 refine⟨fun i m ys σc H=>m=xs.length - i∧i≤xs.length∧∃ F' Γc ds l,aE F1 F'∧En K ((Bs.mk F1 H1 (ownOf Γ1 σ (cW fr))).kR l) F' σc H Γc∧ys=((l.map (·.1)).reverse).map V.ref∧(l.map (·.1)).Nodup∧(∀ z,z∈l→H1 z.1=none)∧j1 K F' l ds∧l.length=i∧ds.length=i∧Iv i ds Γc,
  ⟨_,rfl,Nat.zero_le _,F1,_,[],[],aE.refl _,eb,rfl,by simp,(fun _ h=>nomatch h),rfl,rfl,rfl,i0⟩,?_⟩
 rintro i m ys σc H2 ⟨rfl,hi',F2,Γ2,ds,l,s2,e2,rfl,nd2,new2,r2,hl2,hl,iv⟩
 refine⟨by simp [hl2];omega,?_⟩
 have cond:∀ z,z∈l→(Bs.mk F1 H1 (ownOf Γ1 σ (cW fr))).H z.1=none∧(Bs.mk F1 H1 (ownOf Γ1 σ (cW fr))).F z.1=none∧∀ j,(j,z.1)∉(Bs.mk F1 H1 (ownOf Γ1 σ (cW fr))).own:=fun z hz=>by
  have h1:=new2 z hz
  refine⟨h1,e1.nof h1,fun j hj=>?_⟩
  obtain⟨i',d,_,h5,h6⟩:=gk.mp hj
  exact e1.pO h1 i' d h5 h6
 by_cases lt:i < xs.length
 ·refine .inr ⟨R.go i H2 (s2.trans e2.sub) lt,fun x H3 y=>?_⟩
  have hd:xs[i]?=some xs[i]:=List.getElem?_eq_getElem lt
  obtain⟨F3,s3,e3',r3⟩:=R.turn s2 e2 hd y
  refine hg _ F3 σc H3 Γ2 x _ _ _ e3' r3 (it i _ ds Γ2 hd hl iv) fun σ2 Γ4 e4 q4=>?_
  refine⟨fun y H5=>∃ F5 Γ5 r,aE F3 F5∧En K ((Bs.mk F1 H1 (ownOf Γ1 σ (cW fr))).kR l) F5 σ2 H5 Γ5∧dC K ((Bs.mk F1 H1 (ownOf Γ1 σ (cW fr))).kR l) F5 σ2 H5 Γ5 y r∧frL r fun zs=>Iv (i + 1) (ds++[zs]) Γ5,fun y H5 ⟨F5,Γ5,r,s5,e5,rv,iv5⟩=>?_,he _ F3 σ2 H3 Γ4 _ _ e4 q4 fun v H' p=>p⟩
  obtain⟨zs,rfl,iv5⟩:=Cf iv5
  obtain⟨p,rfl,f5,⟨vs,h5,r5⟩,b5,n5⟩:=rv
  obtain⟨b6,b7⟩:=sY b5
  refine⟨xs.length - (i + 1),by omega,rfl,lt,F5,Γ5,ds++[zs],(p,.lst vs)::l,((s2.trans s3).trans s5),e5.hide f5 h5 n5,by simp,?_,?_,⟨zs,ds,vs,rfl,rfl,r5,r2.mono (s3.trans s5)⟩,by simp [hl2],by simp [hl],iv5⟩
  ·rw[List.map_cons,List.nodup_cons];exact⟨b7,nd2⟩
  ·intro z hz
   rcases List.mem_cons.mp hz with rfl | hz
   ·exact b6
   ·exact new2 z hz
 ·have z:i=xs.length:=by omega
  subst z
  refine .inl ⟨R.stop _ H2 (s2.trans e2.sub) rfl,fun l' hl'=>k _ _ ?_⟩
  obtain⟨e3,k3⟩:=e2.se nd2 cond
  have eo:En K B F2 σ H2 (aT fr Γ1 Γ2):=e1.back (ls:=fr) e3 (by have:=jN (Γ:=Γ1) (σ:=σ) (bs:=cW fr);rw[ma] at this;exact this)
  have nh:∀ {p:Addr},H1 p=none→∀ (i:Nat) (x:D),Hld (aT fr Γ1 Γ2) i x→σ[i]?≠some (some (V.ref p)):=fun {p} h4' i x hx hp=>by
   obtain⟨d0,w⟩:∃ d0,Hld Γ1 i d0:=by
    rcases hx with hx | hx <;> rw[bM] at hx
    ·cases w:Γ1[i]? with
     | none=>rw[w] at hx;cases hx
     | some s=>rw[w] at hx;cases s with
      | none=>cases hx
      | some s=>cases s with
       | fz d=>cases hx
       | ow d=>exact⟨d,.inl w⟩
       | ln d=>cases hx
    ·cases w:Γ1[i]? with
     | none=>rw[w] at hx;cases hx
     | some s=>rw[w] at hx;cases s with
      | none=>cases hx
      | some s=>cases s with
       | fz d=>cases hx
       | ow d=>cases hx
       | ln d=>exact⟨d,.inr w⟩
   exact e1.pO h4' i d0 w hp
  have mem:∀ {z:Addr},z∈(l.map (·.1)).reverse→∃ o,(z,o)∈l:=fun {z} hz=>by
   rw[List.mem_reverse,List.mem_map] at hz
   obtain⟨⟨y,o⟩,hy,rfl⟩:=hz
   exact⟨o,hy⟩
  refine⟨F2,_,.rws ds,s1.trans s2,eo.alloc hl' _,⟨l',(l.map (·.1)).reverse,rfl,aD,?_,?_,fun z hz=>?_⟩,ie ds Γ2 hl iv⟩
  ·rw[List.nodup_cons]
   refine⟨fun hz=>?_,List.pairwise_reverse.mpr (nd2.imp fun h=>Ne.symm h)⟩
   obtain⟨o,ho⟩:=mem hz
   rw[(k3 _ ho).1] at hl';cases hl'
  ·refine(r2.at fun z hz=>(k3 z hz).1).mono (aE.refl F2) fun z hz=>?_
   obtain⟨o,ho⟩:=mem hz
   exact ak (bL (k3 _ ho).1 hl')
  ·rcases List.mem_cons.mp hz with rfl | hz
   ·exact⟨eo.nof hl',eo.dom _ hl',eo.pO hl'⟩
   ·obtain⟨o,ho⟩:=mem hz
    have h1:=new2 _ ho
    exact⟨(k3 _ ho).2.1,e1.dom _ h1,nh h1⟩
theorem lV {elt iter tg:Expr} {sc:Scope} {Nc:List Str} {fr:List (Option Nat)} {wi:TI} {i3:TI3} {g:TG} {g3:TG3} {te:TE} {e3:TE3} (hc:X.calm=true) (hi:P3I K X tg iter wi i3) (Bk:Blk X.N X.env.scope sc Nc fr)
  (hg:∀ s₀ H₀ C ex pn,P3G K (bJ X sc Nc s₀ H₀ C ex pn) tg g g3) (he:∀ s₀ H₀ C ex pn,P3 K (bJ X sc Nc s₀ H₀ C ex pn) elt te e3) (nd:(fr.filterMap id).Nodup:=by decide) (hs:∀ x,foldedSetIterable iter X.env x=pure x:=by intro _;rfl) :
  P3 K X (.ListComp elt [⟨tg,iter,[],0⟩] sc pos) (lF fr wi g te) (oO fr i3 g3 e3):=
 ⟨sG hc hi.pe Bk (fun a b c d e=>(hg a b c d e).pe) (fun a b c d e=>(he a b c d e).pe) hs,tV nd hi.rf (hg X.s₀ X.H₀ 0 [] []).rf (he X.s₀ X.H₀ 0 [] []).rf⟩
def nr3 (e3:TE3) (Γ:G) (Q:RV→G→Prop):Prop:=e3 Γ fun r Γ1=>qG r fun xss=>Q (.fr (.lst (xss.map .lst))) Γ1
theorem Dr {e:Expr} {te:TE} {e3:TE3} (h:P3 K X e te e3):P3 K X e te (nr3 e3):=⟨h.pe,by
 intro B F σ H Γ Q QQ en q kk
 refine h.rf B F σ H Γ _ _ en q fun v H' ⟨F',Γ',r,s,e',rv,q'⟩=>kk v H' ?_
 obtain⟨xss,rfl,q'⟩:=n3 q'
 obtain⟨p,qs,rfl,h1,h2,h3,h4⟩:=rv
 obtain⟨F2,s2,e2,f2,o2⟩:=e'.n4 h1 h2 h3 h4
 obtain⟨_,b2,b3⟩:=h4 p (.head _)
 exact⟨F2,Γ',.fr (.lst (xss.map .lst)),s.trans s2,e2,⟨p,rfl,f2,o2,b2,b3⟩,q'⟩⟩
end
end L3
namespace L3
open PySem L2 PySem.Spec PyProof.Rows
section
variable {K:PySem.W.Frag} {X:Cx} {B:Bs} {F F':Hp} {σ σ':L2.St} {H:Hp} {Γ Γ':G} {pos:Pos}
theorem En.weak (e:En K B F σ H Γ) (hl:Γ'.length=Γ.length) (h:∀ (k:Nat) (s:Sl),Γ'[k]?=some (some s)→Γ[k]?=some (some s)) (hn:∀ (k:Nat) (d:D),Γ[k]?=some (some (Sl.ln d))→Γ'[k]?=Γ[k]?):En K B F σ H Γ':=by
 have hld:∀ {j:Nat} {x:D},Hld Γ' j x→Hld Γ j x:=fun q=>q.imp (h _ _) (h _ _)
 exact⟨e.sub,by rw[hl];exact e.len,fun j d q=>e.fz j d (h _ _ q),fun j d q=>e.hl j d (hld q),fun j d p q=>e.ow j d p (h _ _ q),fun j d p q=>e.ln j d p (h _ _ q),fun j k d d' p q1 q2=>e.dis j k d d' p (hld q1) (hld q2),
  fun j p q=>by
   obtain⟨a,d,b⟩:=e.par j p q
   exact⟨a,d,by rw[hn j d b];exact b⟩,e.keep,e.new,e.rest,e.dom⟩
def cM (Γ:G) (g:Nat):Nat→G
 | 0=>Γ
 | n + 1=>cM (Γ.set g none) (g + 1) n
theorem gi:∀ {n:Nat} {Γ:G} {g i:Nat},i < g→(cM Γ g n)[i]?=Γ[i]?
 | 0,_,_,_,_=>rfl
 | n + 1,Γ,g,i,h=>by unfold cM;rw[gi (Nat.lt_succ_of_lt h),aw (Nat.ne_of_gt h)]
theorem dD:∀ {n:Nat} {Γ:G} {g:Nat},(cM Γ g n).length=Γ.length
 | 0,_,_=>rfl
 | n + 1,Γ,g=>by unfold cM;rw[dD,List.length_set]
theorem jE:∀ {n:Nat} {Γ:G} {g i:Nat},g + n≤i→(cM Γ g n)[i]?=Γ[i]?
 | 0,_,_,_,_=>rfl
 | n + 1,Γ,g,i,h=>by unfold cM;rw[jE (by omega),aw (by omega)]
theorem jF:∀ {n:Nat} {Γ:G} {g i:Nat},g≤i→i < g + n→i < Γ.length→(cM Γ g n)[i]?=some none
 | 0,_,_,_,h,h',_=>by omega
 | n + 1,Γ,g,i,h,h',hl=>by
  unfold cM
  by_cases z:i=g
  ·subst z;rw[gi (Nat.lt_succ_self _),au hl]
  ·exact jF (by omega) (by omega) (by rw[List.length_set];exact hl)
theorem En.jR:∀ {qs:List Addr} {xss:List (List D)} {g:Nat} {F:Hp} {Γ:G},En K B F σ H Γ→xss.length=qs.length→(∀ k q xs,qs[k]?=some q→xss[k]?=some xs→Γ[g + k]?=some (some (Sl.ow (.cel q xs))))→
  ∃ F',aE F F'∧En K B F' σ H (cM Γ g qs.length)∧av K F' (xss.map .lst) (qs.map V.ref)∧∀ b o,F' b=some o→F b=some o∨(b∈qs∧∃ vs,o=.lst vs)
 | [],[],g,F,Γ,e,_,_=>⟨F,aE.refl F,e,rfl,fun b o h=>.inl h⟩
 | q::qs,xs::xss,g,F,Γ,e,hl,h=>by
  have h0:Γ[g]?=some (some (Sl.ow (.cel q xs))):=h 0 q xs rfl rfl
  obtain⟨a1,a2,vs,a3,a4⟩:=e.adr (.inl h0)
  obtain⟨p,b1,b2,b3⟩:=e.hl g _ (.inl h0)
  have e1:=e.forget (i:=g) (by unfold bc;rw[h0];trivial)
  have nh:∀ (i:Nat) (d:D),Hld (Γ.set g none) i d→σ[i]?≠some (some (V.ref q)):=fun i d hi z=>by
   have il:g < Γ.length:=(List.getElem?_eq_some_iff.mp h0).1
   have ne:i≠g:=fun w=>by subst w;rcases hi with hi | hi <;> rw[au il] at hi <;> cases hi
   have hi':Hld Γ i d:=by unfold Hld at hi ⊢;rw[aw (Ne.symm ne)] at hi;exact hi
   exact ne (e.dis i g d _ q hi' (.inl h0) z a1)
  have e2:=e1.freeze a2 a3 (e.ow g _ q h0 a1) nh
  have s1:=bw (o:=.lst vs) a2
  obtain⟨F',s',e',r',k'⟩:=En.jR (qs:=qs) (xss:=xss) (g:=g + 1) e2 (by simpa using hl) fun k q' xs' hq hx=>by
   rw[aw (by omega),show g + 1 + k=g + (k + 1) by omega]
   exact h (k + 1) q' xs' (by simpa using hq) (by simpa using hx)
  refine⟨F',s1.trans s',e',⟨_,_,rfl,⟨q,vs,rfl,s' _ _ aD,a4.mono (s1.trans s')⟩,r'⟩,fun b o hb=>?_⟩
  rcases k' b o hb with w | ⟨w,v⟩
  ·by_cases z:b=q
   ·subst z;rw[aD] at w;cases w;exact .inr ⟨.head _,vs,rfl⟩
   ·rw[ak z] at w;exact .inl w
  ·exact .inr ⟨.tail _ w,v⟩
structure qv (Γ:G) (i g:Nat) (p:Addr) (qs:List Addr) (xss:List (List D)):Prop where
 nm:Γ[i]?=some (some (Sl.fz (.adr p)))
 lt:i < g
 at0:Γ[g]?=some (some (Sl.ow (.cel p (qs.map .adr))))
 len:xss.length=qs.length
 ats:∀ k q xs,qs[k]?=some q→xss[k]?=some xs→Γ[g + 1 + k]?=some (some (Sl.ow (.cel q xs)))
def fq (Γ:G) (i g n:Nat) (xss:List (List D)):G:=(cM Γ g (n + 1)).set i (some (.fz (.lst (xss.map .lst))))
theorem En.fq {i g:Nat} {p:Addr} {qs:List Addr} {xss:List (List D)} (e:En K B F σ H Γ) (h:qv Γ i g p qs xss) :
  ∃ F',aE F F'∧En K B F' σ H (fq Γ i g qs.length xss)∧∀ b o,F' b=some o→F b=some o∨(b∈p::qs∧∃ vs,o=.lst vs):=by
 have il:g < Γ.length:=(List.getElem?_eq_some_iff.mp h.at0).1
 obtain⟨a1,a2,vs,a3,a4⟩:=e.adr (.inl h.at0)
 obtain⟨u,b1,b2⟩:=e.fz i _ h.nm
 cases (show u=V.ref p from b2)
 have e1:=e.forget (i:=g) (by unfold bc;rw[h.at0];trivial)
 have nh:∀ (i:Nat) (d:D),Hld (Γ.set g none) i d→σ[i]?≠some (some (V.ref p)):=fun i d hi z=>by
  have ne:i≠g:=fun w=>by subst w;rcases hi with hi | hi <;> rw[au il] at hi <;> cases hi
  have hi':Hld Γ i d:=by unfold Hld at hi ⊢;rw[aw (Ne.symm ne)] at hi;exact hi
  exact ne (e.dis i g d _ p hi' (.inl h.at0) z a1)
 have e2:=e1.freeze a2 a3 (e.ow g _ p h.at0 a1) nh
 have s1:=bw (o:=.lst vs) a2
 obtain⟨F',s',e',r',k'⟩:=e2.jR (qs:=qs) (xss:=xss) (g:=g + 1) h.len fun k q xs hq hx=>by
  rw[aw (by omega)];exact h.ats k q xs hq hx
 have vq:vs=qs.map V.ref:=by
  have go:∀ {qs:List Addr} {vs:List V},av K F (qs.map D.adr) vs→vs=qs.map V.ref:=by
   intro qs
   induction qs with
   | nil=>intro vs h;exact h
   | cons q qs ih=>
    intro vs h
    obtain⟨v,ws,rfl,r1,r2⟩:=h
    rw[show v=V.ref q from r1,ih r2];rfl
  exact go a4
 refine⟨F',s1.trans s',?_,fun b o hb=>?_⟩
 ·refine e'.Fn (i:=i) (d:=.adr p) ?_ fun v hv=>?_
  ·rw[gi (Nat.lt_succ_of_lt h.lt),aw (Nat.ne_of_gt h.lt)];exact h.nm
  ·rw[b1] at hv;cases hv
   exact⟨p,vs,rfl,s' _ _ aD,by rw[vq];exact r'⟩
 ·rcases k' b o hb with w | ⟨w,v⟩
  ·by_cases z:b=p
   ·subst z;rw[aD] at w;cases w;exact .inr ⟨.head _,vs,rfl⟩
   ·rw[ak z] at w;exact .inl w
  ·exact .inr ⟨.tail _ w,v⟩
theorem Ao {i g:Nat} {p:Addr} {qs:List Addr} {xss:List (List D)} (h:qv Γ i g p qs xss):Wk K Γ (fq Γ i g qs.length xss):=fun B F σ H e=>by
 obtain⟨F',s,e',_⟩:=e.fq h
 exact⟨F',s,e'⟩
mutual
def nol:D→Bool
 | .non=>true
 | .bl _=>true
 | .int _=>true
 | .str _=>true
 | .ty _=>true
 | .adr _=>true
 | .tup xs=>kP xs
 | .ins _ _ xs=>kP xs
 | .dct=>true
 | .dcs _ _=>true
 | .lst _=>false
 | .cel _ _=>false
 | .ktup _=>false
 | .scr _=>false
 | .exc _ _ _=>false
def kP:List D→Bool
 | []=>true
 | x::xs=>nol x && kP xs
end
def xq (F F':Hp):Prop:=∀ b o,F b=some o→(∀ vs,o≠.lst vs)→F' b=some o
mutual
theorem Rep.less (s:xq F F'):∀ {d:D} {v:V},nol d=true→Rep K F d v→Rep K F' d v
 | .non,_,_,h=>h
 | .bl _,_,_,h=>h
 | .int _,_,_,h=>h
 | .str _,_,_,h=>h
 | .ty _,_,_,h=>h
 | .adr _,_,_,h=>h
 | .tup xs,v,n,⟨p,vs,h1,h2,h3⟩=>⟨p,vs,h1,s _ _ h2 (fun _ z=>by cases z),av.less s n h3⟩
 | .ins C ns xs,v,n,⟨p,dx,gs,h1,h2,h3,h4⟩=>⟨p,dx,gs,h1,s _ _ h2 (fun _ z=>by cases z),h3,av.less s n h4⟩
 | .dct,v,_,⟨p,h1,h2⟩=>⟨p,h1,s _ _ h2 (fun _ z=>by cases z)⟩
 | .dcs _ _,v,_,⟨p,h1,h2⟩=>⟨p,h1,s _ _ h2 (fun _ z=>by cases z)⟩
 | .lst _,_,n,_=>by cases n
 | .cel _ _,_,n,_=>by cases n
 | .ktup _,_,n,_=>by cases n
 | .scr _,_,n,_=>by cases n
 | .exc _ _ _,_,n,_=>by cases n
theorem av.less (s:xq F F'):∀ {xs:List D} {vs:List V},kP xs=true→av K F xs vs→av K F' xs vs
 | [],_,_,h=>h
 | x::xs,_,n,⟨v,ws,h1,h2,h3⟩=>by
  have n:(nol x && kP xs)=true:=n
  rw[Bool.and_eq_true] at n
  exact⟨v,ws,h1,Rep.less s n.1 h2,av.less s n.2 h3⟩
end
def qV:D→Bool
 | .lst xs=>kP xs
 | .cel _ xs=>kP xs
 | .ins _ _ xs=>kP xs
 | _=>false
theorem Own.less (s:xq F F') {p:Addr}:∀ {d:D},qV d=true→Own K F H p d→Own K F' H p d
 | .lst _,n,⟨vs,a,b⟩=>⟨vs,a,b.less s n⟩
 | .cel _ _,n,⟨z,vs,a,b⟩=>⟨z,vs,a,b.less s n⟩
 | .ins _ _ _,n,⟨dx,gs,a,b,c⟩=>⟨dx,gs,a,b,c.less s n⟩
def yp:RV→Bool
 | .fz d=>nol d
 | .fr d=>qV d
 | _=>false
theorem dC.less (s:xq F F') (hs:aE F' F) {v:V}:∀ {r:RV},yp r=true→dC K B F σ H Γ' v r→(∀ (i:Nat) (e:D) (p:Addr),F p=none→B.H p=none→(∀ (i:Nat) (e:D),Hld Γ' i e→σ[i]?≠some (some (V.ref p)))→Hld Γ i e→σ[i]?≠some (some (V.ref p)))→dC K B F' σ H Γ v r
 | .fz d,n,h,_=>Rep.less (d:=d) s n h
 | .fr d,n,⟨p,h1,h2,h3,h4,h5⟩,k=>by
  refine⟨p,h1,?_,h3.less s n,h4,fun i e=>k i e p h2 h4 h5⟩
  cases z:F' p with
  | none=>rfl
  | some o=>rw[hs _ _ z] at h2;cases h2
def CB (Γ:G) (g n:Nat):Prop:=∀ (k:Nat) (d:D),Hld Γ k d→(g≤k∧k < g + n)∨qV d=true
def tf3 (i g:Nat) (e3:TE3) (Γ:G) (Q:RV→G→Prop):Prop:=∃ p qs xss,qv Γ i g p qs xss∧CB Γ g (qs.length + 1)∧e3 (fq Γ i g qs.length xss) fun r Γ2=>Γ2=fq Γ i g qs.length xss∧yp r=true∧Q r Γ
theorem Dq (i g:Nat) {e:Expr} {te:TE} {e3:TE3} (h:P3 K X e te e3):P3 K X e te (tf3 i g e3):=⟨h.pe,by
 intro B F σ H Γ Q QQ en q kk
 obtain⟨p,qs,xss,ga,ng,q⟩:=q
 obtain⟨F1,s1,e1,k1⟩:=en.fq ga
 refine h.rf B F1 σ H _ _ _ e1 q fun v H2 ⟨F2,Γ2,r,s2,e2,rv,h2,nr,q2⟩=>kk v H2 ?_
 subst h2
 have inF:∀ b,b∈p::qs→F b=none:=fun b hb=>by
  rcases List.mem_cons.mp hb with rfl | hb
  ·exact(en.adr (.inl ga.at0)).2.1
  ·obtain⟨k,hk⟩:=List.getElem?_of_mem hb
   have lt:k < xss.length:=by rw[ga.len];exact(List.getElem?_eq_some_iff.mp hk).1
   exact(en.adr (.inl (ga.ats k b _ hk (List.getElem?_eq_getElem lt)))).2.1
 have lst1:∀ b,b∈p::qs→∃ vs,F1 b=some (.lst vs):=fun b hb=>by
  have:∃ o,F1 b=some o:=by
   rcases List.mem_cons.mp hb with rfl | hb
   ·obtain⟨u,c1,c2⟩:=e1.fz i (.lst (xss.map .lst)) (by
     unfold L3.fq
     rw[au (by rw[dD];exact(List.getElem?_eq_some_iff.mp ga.nm).1)])
    obtain⟨u',d1,d2⟩:=en.fz i _ ga.nm
    rw[d1] at c1;cases c1
    cases (show u=V.ref b from d2)
    obtain⟨p',vs,z1,z2,_⟩:=c2
    cases z1
    exact⟨_,z2⟩
   ·obtain⟨k,hk⟩:=List.getElem?_of_mem hb
    obtain⟨u,c1,c2⟩:=e1.fz i (.lst (xss.map .lst)) (by
     unfold L3.fq
     rw[au (by rw[dD];exact(List.getElem?_eq_some_iff.mp ga.nm).1)])
    obtain⟨u',d1,d2⟩:=en.fz i _ ga.nm
    rw[d1] at c1;cases c1
    cases (show u=V.ref p from d2)
    obtain⟨p',vs,z1,z2,z3⟩:=c2
    cases z1
    obtain⟨_,_,ws,z4,z5⟩:=en.adr (.inl ga.at0)
    have z6:=e1.sub _ _ z2
    rw[z4] at z6
    cases z6
    have lt:k < (xss.map D.lst).length:=by rw[List.length_map,ga.len];exact(List.getElem?_eq_some_iff.mp hk).1
    obtain⟨w,y1,y2⟩:=z3.get (List.getElem?_eq_getElem lt)
    obtain⟨w',y3,y4⟩:=z5.get (i:=k) (d:=.adr b) (by rw[List.getElem?_map,hk];rfl)
    rw[y1] at y3;cases y3
    cases (show w=V.ref b from y4)
    rw[List.getElem_map] at y2
    obtain⟨b',vs',x1,x2,_⟩:=y2
    cases x1
    exact⟨_,x2⟩
  obtain⟨o,ho⟩:=this
  rcases k1 b o ho with w | ⟨_,vs,rfl⟩
  ·rw[inF b hb] at w;cases w
  ·exact⟨vs,ho⟩
 let F3:Hp:=fun b=>if b∈p::qs then none else F2 b
 have F3in:∀ b,b∈p::qs→F3 b=none:=fun b hb=>if_pos hb
 have F3out:∀ b,b∉p::qs→F3 b=F2 b:=fun b hb=>if_neg hb
 have sF:aE F F3:=fun b o hb=>by
  have:b∉p::qs:=fun z=>by rw[inF b z] at hb;cases hb
  rw[F3out b this];exact s2 _ _ (s1 _ _ hb)
 have s32:aE F3 F2:=fun b o hb=>by
  by_cases z:b∈p::qs
  ·rw[F3in b z] at hb;cases hb
  ·rw[F3out b z] at hb;exact hb
 have ls:xq F2 F3:=fun b o hb hn=>by
  by_cases z:b∈p::qs
  ·obtain⟨vs,hv⟩:=lst1 b z
   rw[s2 _ _ hv] at hb;cases hb
   exact absurd rfl (hn vs)
  ·rw[F3out b z];exact hb
 have gname:(fq Γ i g qs.length xss)[i]?=some (some (Sl.fz (.lst (xss.map .lst)))):=by
  unfold L3.fq
  rw[au (by rw[dD];exact(List.getElem?_eq_some_iff.mp ga.nm).1)]
 have gother:∀ {k:Nat} {s:Sl},Γ[k]?=some (some s)→k≠i→¬ (g≤k∧k < g + (qs.length + 1))→(fq Γ i g qs.length xss)[k]?=some (some s):=fun {k s} hk ne nb=>by
  unfold L3.fq
  rw[aw (Ne.symm ne)]
  by_cases z:k < g
  ·rw[gi z];exact hk
  ·rw[jE (by omega)];exact hk
 have gback:∀ {k:Nat} {d:D},Hld (fq Γ i g qs.length xss) k d→Hld Γ k d:=fun {k d} hk=>by
  have go:∀ {s:Sl},(fq Γ i g qs.length xss)[k]?=some (some s)→(∀ d,s≠.fz d)→Γ[k]?=some (some s):=fun {s} hs hn=>by
   by_cases ki:k=i
   ·subst ki;rw[gname] at hs;cases hs;exact absurd rfl (hn _)
   unfold L3.fq at hs
   rw[aw (Ne.symm ki)] at hs
   have kl:k < Γ.length:=by rw[← dD (n:=qs.length + 1) (g:=g)];exact(List.getElem?_eq_some_iff.mp hs).1
   by_cases z:k < g
   ·rw[gi z] at hs;exact hs
   ·by_cases y:k < g + (qs.length + 1)
    ·rw[jF (by omega) y kl] at hs;cases hs
    ·rw[jE (by omega)] at hs;exact hs
  rcases hk with hk | hk
  ·exact .inl (go hk (fun _ z=>by cases z))
  ·exact .inr (go hk (fun _ z=>by cases z))
 have slot:∀ {k:Nat} {d:D},Hld Γ k d→(g≤k∧k < g + (qs.length + 1))→∃ b xs,d=.cel b xs∧b∈p::qs:=fun {k d} hk hb=>by
  by_cases z:k=g
  ·subst z
   rcases hk with hk | hk <;> rw[ga.at0] at hk <;> cases hk
   exact⟨p,_,rfl,.head _⟩
  ·have lt:k - (g + 1) < qs.length:=by omega
   have hx:k - (g + 1) < xss.length:=by rw[ga.len];exact lt
   have:=ga.ats (k - (g + 1)) _ _ (List.getElem?_eq_getElem lt) (List.getElem?_eq_getElem hx)
   rw[show g + 1 + (k - (g + 1))=k by omega] at this
   rcases hk with hk | hk <;> rw[this] at hk <;> cases hk
   exact⟨_,_,rfl,.tail _ (List.getElem_mem lt)⟩
 refine⟨F3,Γ,r,sF,⟨fun b o hb=>e2.sub b o (s32 b o hb),en.len,fun k d hk=>?_,fun k d hk=>?_,en.ow,en.ln,en.dis,en.par,en.keep.trans sF,fun b o hb=>e2.new b o (s32 b o hb),e2.rest,e2.dom⟩,?_,q2⟩
 ·obtain⟨u,a,b⟩:=en.fz k d hk
  exact⟨u,a,b.mono sF⟩
 ·obtain⟨p',a,b,c⟩:=en.hl k d hk
  refine⟨p',a,?_,?_⟩
  ·by_cases z:p'∈p::qs
   ·exact F3in _ z
   ·rw[F3out _ z]
    by_cases y:g≤k∧k < g + (qs.length + 1)
    ·obtain⟨b',xs,rfl,hb'⟩:=slot hk y
     obtain⟨rfl,_⟩:=c
     exact absurd hb' z
    ·have ki:k≠i:=fun w=>by subst w;rcases hk with hk | hk <;> rw[ga.nm] at hk <;> cases hk
     have hk2:Hld (fq Γ i g qs.length xss) k d:=by
      rcases hk with hk | hk
      ·exact .inl (gother hk ki y)
      ·exact .inr (gother hk ki y)
     obtain⟨p2,a2,b2,_⟩:=e2.hl k d hk2
     rw[a] at a2;cases a2
     exact b2
  ·rcases ng k d hk with y | y
   ·obtain⟨b',xs,rfl,hb'⟩:=slot hk y
    obtain⟨rfl,vs,c1,c2⟩:=c
    obtain⟨ws,hw⟩:=lst1 _ hb'
    have h1:=e1.sub _ _ hw
    rw[c1] at h1;cases h1
    exact⟨rfl,vs,e2.sub _ _ (s2 _ _ hw),c2.mono sF⟩
   ·by_cases y2:g≤k∧k < g + (qs.length + 1)
    ·obtain⟨b',xs,rfl,hb'⟩:=slot hk y2
     obtain⟨rfl,vs,c1,c2⟩:=c
     obtain⟨ws,hw⟩:=lst1 _ hb'
     have h1:=e1.sub _ _ hw
     rw[c1] at h1;cases h1
     exact⟨rfl,vs,e2.sub _ _ (s2 _ _ hw),c2.mono sF⟩
    ·have ki:k≠i:=fun w=>by subst w;rcases hk with hk | hk <;> rw[ga.nm] at hk <;> cases hk
     have hk2:Hld (fq Γ i g qs.length xss) k d:=by
      rcases hk with hk | hk
      ·exact .inl (gother hk ki y2)
      ·exact .inr (gother hk ki y2)
     obtain⟨p2,a2,b2,c2⟩:=e2.hl k d hk2
     rw[a] at a2;cases a2
     exact c2.less ls y
 ·refine rv.less ls s32 nr fun k d p' f' b' n' hk a=>?_
  by_cases y:g≤k∧k < g + (qs.length + 1)
  ·obtain⟨b2,xs,rfl,hb'⟩:=slot hk y
   obtain⟨a1,_⟩:=en.adr hk
   rw[a] at a1;cases a1
   obtain⟨ws,hw⟩:=lst1 _ hb'
   rw[s2 _ _ hw] at f';cases f'
  ·have ki:k≠i:=fun w=>by subst w;rcases hk with hk | hk <;> rw[ga.nm] at hk <;> cases hk
   have hk2:Hld (fq Γ i g qs.length xss) k d:=by
    rcases hk with hk | hk
    ·exact .inl (gother hk ki y)
    ·exact .inr (gother hk ki y)
   exact n' k d hk2 a⟩
end
end L3
namespace L3
open PySem L2 PySem.Spec PyProof.Rows
def spG (K:PySem.W.Frag) (n L:Nat) (S:S3):Sp:=fun vs H Q _=>vs.length=n∧∃ F own γ Γa Q3,En K ⟨F,H,own⟩ F (vs.map some++List.replicate (L - n) none++γ) H Γa∧(∀ (k:Nat) (d:D),Γa[k]?≠some (some (Sl.ow d)))∧S Γa Q3∧
 ∀ r Γ',Q3 r Γ'→∀ v H' F',En K ⟨F,H,own⟩ F' (vs.map some++List.replicate (L - n) none++γ) H' Γ'→dC K ⟨F,H,own⟩ F' (vs.map some++List.replicate (L - n) none++γ) H' Γ' v r→Q v H'
section
variable {K:PySem.W.Frag} {X:Cx} {B:Bs} {F F':Hp} {σ σ':L2.St} {H:Hp} {Γ Γ':G} {pos:Pos}
theorem En.pad (e:En K B F σ H Γ) (m:Nat):En K B F (σ++List.replicate m none) H (Γ++List.replicate m none):=by
 have len:=e.len
 have hs:∀ {i:Nat},i < Γ.length→(σ++List.replicate m none)[i]?=σ[i]?:=fun {i} h=>List.getElem?_append_left (by omega)
 have hg:∀ {i:Nat} {s:Sl},(Γ++List.replicate m none)[i]?=some (some s)→i < Γ.length∧Γ[i]?=some (some s):=fun {i s} h=>by
  by_cases lt:i < Γ.length
  ·rw[List.getElem?_append_left lt] at h;exact⟨lt,h⟩
  ·rw[List.getElem?_append_right (by omega)] at h
   have:=List.mem_of_getElem? h
   rw[List.mem_replicate] at this
   cases this.2
 have hh:∀ {i:Nat} {d:D},Hld (Γ++List.replicate m none) i d→i < Γ.length∧Hld Γ i d:=fun h=>by
  rcases h with h | h
  ·exact⟨(hg h).1,.inl (hg h).2⟩
  ·exact⟨(hg h).1,.inr (hg h).2⟩
 refine⟨e.sub,by simp [len],?_,?_,?_,?_,?_,?_,e.keep,e.new,e.rest,e.dom⟩
 ·intro i d q
  obtain⟨lt,q⟩:=hg q
  rw[hs lt];exact e.fz i d q
 ·intro i d q
  obtain⟨lt,q⟩:=hh q
  rw[hs lt];exact e.hl i d q
 ·intro i d p q a
  obtain⟨lt,q⟩:=hg q
  rw[hs lt] at a;exact e.ow i d p q a
 ·intro i d p q a
  obtain⟨lt,q⟩:=hg q
  rw[hs lt] at a;exact e.ln i d p q a
 ·intro i j d d' p q1 q2 a1 a2
  obtain⟨l1,q1⟩:=hh q1
  obtain⟨l2,q2⟩:=hh q2
  rw[hs l1] at a1
  rw[hs l2] at a2
  exact e.dis i j d d' p q1 q2 a1 a2
 ·intro i p q
  obtain⟨a,d,b⟩:=e.par i p q
  have lt:i < Γ.length:=(List.getElem?_eq_some_iff.mp b).1
  exact⟨by rw[hs lt];exact a,d,by rw[List.getElem?_append_left lt];exact b⟩
theorem dC.weak {v:V} (h:∀ (i:Nat) (e:D),Hld Γ' i e→∃ e',Hld Γ i e'):∀ {r:RV},dC K B F σ H Γ v r→dC K B F σ H Γ' v r
 | .fz _,q=>q
 | .fr _,⟨p,h1,h2,h3,h4,h5⟩=>⟨p,h1,h2,h3,h4,fun i e he=>(h i e he).elim fun e' he'=>h5 i e' he'⟩
 | .two _ _,⟨t,p,q,vs,ws,h1,h2,h3,h4,h5,h6,h7,h8⟩=>⟨t,p,q,vs,ws,h1,h2,h3,h4,h5,h6,h7,fun z hz=>⟨(h8 z hz).1,(h8 z hz).2.1,fun i e he=>(h i e he).elim fun e' he'=>(h8 z hz).2.2 i e' he'⟩⟩
 | .rws _,⟨p,qs,h1,h2,h3,h4,h8⟩=>⟨p,qs,h1,h2,h3,h4,fun z hz=>⟨(h8 z hz).1,(h8 z hz).2.1,fun i e he=>(h i e he).elim fun e' he'=>(h8 z hz).2.2 i e' he'⟩⟩
end
section
variable {P:Program} {w:World} {K:PySem.W.Frag} {mg:Str→Option Value} {base:Heap}
theorem okG {x qual:Str} {st:Stmt} {f:Addr} {fd:FuncData} {N ps:List Str} {k:Nat} {S:S3} (L:Nat) (F:Fun K x qual st f fd) (Sc:aL N ps (ae st)) (hph:lT N (ae st) L=true) (hL:L≤N.length:=by decide) (hn:ps.length≤L:=by decide)
  (hbody:∀ (cdv:Value) (A:Around) (outer:List Env) (s:Shared) (H:Hp) (E:XK),cJ k (A.deeper (envOfC qual (ae st) s.heap.objs.size f cdv))→
   ∃ t t3,jB K (qa CX0 P w K mg base N qual (ae st) f cdv A outer s H E).nox (ao st) t t3∧∀ Γa Q,S Γa Q→Γa.length≤N.length∧t3 { nx:=fun Γ'=>Q (.fz .non) (g8 Γa Γ'),rt:=fun r Γ'=>Q r (g8 Γa Γ') } (cI N Γa)) :
  bK P w K mg base CX0 (k + 1) f fd ps (spG K ps.length L S):=by
 refine F.ok Sc (fun vs H Q E h=>h.1) fun cdv A outer s H vs Q E hr h=>?_
 obtain⟨hl,F0,own,γ,Γa,Q3,e,hno,hS,hQ⟩:=h
 obtain⟨t,t3,ht,rd⟩:=hbody cdv A outer s H E hr
 obtain⟨hla,rd⟩:=rd Γa Q3 hS
 have len:=e.len
 refine⟨tGh L t,qK (iN rfl hph) ht.pe,_,?_,ht.rf ⟨F0,H,own⟩ F0 _ H _ _ { nx:=fun Γ'=>Q3 (.fz .non) (g8 Γa Γ'),rt:=fun r Γ'=>Q3 r (g8 Γa Γ') } (e.pad (N.length - Γa.length)) ⟨?_,?_,fun _ _ _ _ _ _ z=>False.elim z,fun _ _ _ _ _ _ z=>False.elim z⟩ rd⟩
 ·refine⟨?_,fun i lt=>?_⟩
  ·rw[List.length_append,len,List.length_replicate]
   unfold L2.start
   rw[List.length_append,List.length_map,List.length_replicate]
   omega
  ·rw[List.append_assoc,List.append_assoc]
   unfold L2.start
   by_cases li:i < vs.length
   ·rw[List.getElem?_append_left (by rw[List.length_map];exact li),List.getElem?_append_left (by rw[List.length_map];exact li)]
   ·have hA:(List.replicate (N.length - vs.length) (none:Option V))[i - vs.length]?=some none:=by rw[List.getElem?_replicate,if_pos (by omega)]
    have hB:(List.replicate (L - ps.length) (none:Option V))[i - vs.length]?=some none:=by rw[List.getElem?_replicate,if_pos (by omega)]
    rw[List.getElem?_append_right (l₁:=vs.map some) (l₂:=List.replicate (N.length - vs.length) none) (by rw[List.length_map];omega),List.length_map,hA]
    rw[List.getElem?_append_right (by rw[List.length_map];omega),List.length_map,List.getElem?_append_left (by rw[List.length_replicate];omega),hB]
 ·intro F' σ' H' Γ' s' e' q
  obtain⟨a,b⟩:=e.out hno e' (v:=.non) (r:=.fz .non) rfl
  exact hQ _ _ q _ _ _ a b
 ·intro F' σ' H' Γ' v r s' e' rv q
  obtain⟨a,b⟩:=e.out hno e' rv
  exact hQ _ _ q _ _ _ a b
end
def jT (Γ:G) (gs:List Nat):G:=Γ.mapIdx fun k s=>if k∈gs then none else s
def rP (n L:Nat) (S:S3) (t3:fI) (Γ:G) (Q:RV→G→Prop):Prop:=t3 Γ fun bs Γ1=>bs.length=n∧∃ gs:List Nat,(cn bs++gs).Nodup∧(∀ g,g∈gs→∃ d,Γ1[g]?=some (some (Sl.ow d)))∧
 S (cC Γ1 (bs.map some++List.replicate (L - n) none++gs.map fun g=>some (Bo.v g))) fun r Γa=>Q r (aT ((bs.map some).map aS) (jT Γ1 gs) Γa)
theorem ka:∀ bs:List Bo,(((bs.map some).map aS)).filterMap id=cn bs
 | []=>rfl
 | .d x::bs=>by simpa [aS,cn] using ka bs
 | .v j::bs=>by simpa [aS,cn] using ka bs
theorem wt:∀ gs:List Nat,(((gs.map fun g=>some (Bo.v g)).map aS)).filterMap id=gs
 | []=>rfl
 | g::gs=>by simpa [aS] using wt gs
theorem ox {ls:List (Option Nat)} {cs:G} {j:Nat} (h:∀ k:Nat,ls[k]?≠some (some j)):newD ls cs j=none:=by
 cases q:newD ls cs j with
 | none=>rfl
 | some d=>obtain⟨k,a,_⟩:=fc q;exact absurd a (h k)
theorem lZ {ls2:List (Option Nat)} {j:Nat} (h:∀ k:Nat,ls2[k]?≠some (some j)):∀ {ls1:List (Option Nat)} {cs:G},newD (ls1++ls2) cs j=newD ls1 cs j
 | [],cs=>by rw[List.nil_append,ox h];cases cs <;> rfl
 | some i::ls1,[]=>rfl
 | none::ls1,[]=>rfl
 | none::ls1,s::cs=>lZ h (ls1:=ls1) (cs:=cs)
 | some i::ls1,s::cs=>by
  have ih:=lZ h (ls1:=ls1) (cs:=cs)
  show newD (some i::(ls1++ls2)) (s::cs) j=_
  unfold newD
  rw[ih]
section
variable {K:PySem.W.Frag} {X:Cx} {B:Bs} {F F':Hp} {σ σ':L2.St} {H:Hp} {Γ Γ':G} {pos:Pos}
theorem tZ {t:TA} {t3:fI} {S:S3} {n L:Nat} {E:XK} (h:qt K t t3):Ref K (lH (spG K n L S) [] E t) (rP n L S t3):=by
 intro B F σ H Γ Q QQ e q k
 refine h B F σ H Γ _ _ e q fun vs H1 ⟨F1,Γ1,bs,s1,e1,r1,hn,gs,nd,hg,q1⟩=>?_
 show spG K n L S (vs++[]) H1 QQ E
 rw[List.append_nil]
 have vl:=r1.length
 have reg:∀ {k:Nat} {bo:Bo},(bs.map some++List.replicate (L - n) none++gs.map fun g=>some (Bo.v g))[k]?=some (some bo)→(k < bs.length∧bs[k]?=some bo)∨(∃ g,gs[k - (bs.length + (L - n))]?=some g∧bs.length + (L - n)≤k∧bo=.v g):=fun {k bo} hk=>by
  rw[List.append_assoc] at hk
  by_cases lt:k < bs.length
  ·rw[List.getElem?_append_left (by rw[List.length_map];exact lt),List.getElem?_map] at hk
   cases w:bs[k]? with
   | none=>rw[w] at hk;cases hk
   | some b=>rw[w] at hk;cases hk;exact .inl ⟨lt,rfl⟩
  ·rw[List.getElem?_append_right (by rw[List.length_map];omega),List.length_map] at hk
   by_cases lt2:k < bs.length + (L - n)
   ·rw[List.getElem?_append_left (by rw[List.length_replicate];omega)] at hk
    have:=List.mem_of_getElem? hk
    rw[List.mem_replicate] at this
    cases this.2
   ·rw[List.getElem?_append_right (by rw[List.length_replicate];omega),List.length_replicate,List.getElem?_map,show k - bs.length - (L - n)=k - (bs.length + (L - n)) by omega] at hk
    cases w:gs[k - (bs.length + (L - n))]? with
    | none=>rw[w] at hk;cases hk
    | some g=>rw[w] at hk;cases hk;exact .inr ⟨g,rfl,by omega,rfl⟩
 have ei:=e1.inner (bs:=bs.map some++List.replicate (L - n) none++gs.map fun g=>some (Bo.v g)) (σc:=vs.map some++List.replicate (L - n) none++gs.map fun g=>(σ[g]?).join) (by simp [vl]) (fun k bo s hk hs=>by
  rcases reg hk with ⟨lt,hb⟩ | ⟨g,hb,le,rfl⟩
  ·obtain⟨v,a,b⟩:=r1.get hb
   refine⟨v,?_,b⟩
   rw[List.append_assoc,List.getElem?_append_left (by rw[List.length_map,vl];exact lt),List.getElem?_map,a];rfl
  ·obtain⟨d,hd⟩:=hg g (List.mem_of_getElem? hb)
   obtain⟨p,a,_⟩:=e1.hl g d (.inl hd)
   refine⟨V.ref p,?_,a⟩
   rw[List.append_assoc,List.getElem?_append_right (by rw[List.length_map,vl];omega),List.length_map,vl,List.getElem?_append_right (by rw[List.length_replicate];omega),List.length_replicate,List.getElem?_map,show k - bs.length - (L - n)=k - (bs.length + (L - n)) by omega,hb]
   show some (σ[g]?).join=_
   rw[a];rfl) (by
  intro k k' i h1 h2
  have key:(((bs.map some++List.replicate (L - n) none++gs.map fun g=>some (Bo.v g)).map aS).filterMap id)=cn bs++gs:=by
   have k1:=ka bs
   have k2:=wt gs
   have k3:(((List.replicate (L - n) (none:Option Bo)).map aS)).filterMap id=[]:=by
    rw[List.map_replicate]
    exact List.filterMap_eq_nil_iff.mpr fun x hx=>by rw[(List.mem_replicate.mp hx).2];rfl
   rw[List.map_append,List.map_append,List.filterMap_append,List.filterMap_append,k1,k2,k3,List.append_nil]
  rw[← key] at nd
  refine rR nd k k' i ?_ ?_
  ·unfold cW
   rw[List.getElem?_map,List.getElem?_map,h1];rfl
  ·unfold cW
   rw[List.getElem?_map,List.getElem?_map,h2];rfl)
 refine⟨by rw[vl];exact hn,F1,_,_,_,_,ei,jZ,q1,fun r Γa q v H' F' e2 rv=>?_⟩
 obtain⟨a,b,c⟩:=e1.called e2 rv
 have gt:∀ {j:Nat},j∉gs→(aT ((bs.map some).map aS) (jT Γ1 gs) Γa)[j]?=(aT ((bs.map some++List.replicate (L - n) none++gs.map fun g=>some (Bo.v g)).map aS) Γ1 Γa)[j]?:=fun {j} hj=>by
  rw[bM,bM]
  unfold jT
  rw[List.getElem?_mapIdx,List.map_append,List.map_append,List.append_assoc,lZ (ls1:=(bs.map some).map aS)]
  ·cases Γ1[j]? with
   | none=>rfl
   | some x=>simp only[Option.map_some,if_neg hj]
  ·intro k hk
   by_cases lt:k < L - n
   ·rw[List.getElem?_append_left (by simp;exact lt),List.map_replicate] at hk
    have:=(List.mem_replicate.mp (List.mem_of_getElem? hk)).2
    cases this
   ·rw[List.getElem?_append_right (by simp;omega),List.getElem?_map,List.getElem?_map] at hk
    cases w:gs[k - ((List.replicate (L - n) (none:Option Bo)).map aS).length]? with
    | none=>rw[w] at hk;cases hk
    | some g=>rw[w] at hk;cases hk;exact hj (List.mem_of_getElem? w)
 have gn:∀ {j:Nat} {s:Sl},(aT ((bs.map some).map aS) (jT Γ1 gs) Γa)[j]?=some (some s)→j∉gs:=fun {j s} hk hj=>by
  rw[bM] at hk
  unfold jT at hk
  rw[List.getElem?_mapIdx] at hk
  cases w:Γ1[j]? with
  | none=>rw[w] at hk;cases hk
  | some x=>
   rw[w] at hk
   simp only[Option.map_some,if_pos hj] at hk
   cases hk
 refine k v H' ⟨F',_,r,s1.trans a,b.weak ?_ (fun j s hk=>?_) fun j d hk=>?_,dC.weak (Γ:=aT ((bs.map some++List.replicate (L - n) none++gs.map fun g=>some (Bo.v g)).map aS) Γ1 Γa) (fun j d hk=>⟨d,?_⟩) c,q⟩
 ·unfold aT jT;simp
 ·rw[← gt (gn hk)];exact hk
 ·refine gt fun hj=>?_
  obtain⟨d',hd'⟩:=hg j hj
  rw[bM,hd'] at hk
  cases hk
 ·rcases hk with hk | hk
  ·exact .inl (by rw[← gt (gn hk)];exact hk)
  ·exact .inr (by rw[← gt (gn hk)];exact hk)
variable {k L n:Nat} {f:Addr} {fd:FuncData} {ps:List Str} {x:Str} {p:Pos} {e:Expr} {es:List Expr} {t:TA} {t3:fI} {S:S3}
theorem vH (F:bK X.prog X.w X.K X.mg X.base CX0 k f fd ps (spG K n L S)) (hr:cJ k X.A) (hg:Gl X x) (hm:X.mg x=some (.ref f)) (hk:PySem.W.keepIn X.K (.ref f)=true) (hb:Binds X.K fd ps [])
  (ha:qu K X (e::es) t t3) (hdb:(x == ("__debug__":Str))=false:=by decide) (he:starEach (e::es) X.env=(false,eval e X.env)::starEach es X.env:=by rfl) (hpl:(backTo pos (starEach es X.env)).any (·.1)=false:=by rfl) :
  P3 K X (.Call (.Name x p) (e::es) [] pos) (lH (spG K n L S) [] E0 t) (rP n L S t3):=⟨oh F hr hg hm hk hb .nil m_ ha.pe hdb he hpl,tZ ha.rf⟩
end
end L3
namespace L3
open PySem L2 PySem.Spec PyProof.Rows
section
variable {K:PySem.W.Frag} {X:Cx} {B:Bs} {F F':Hp} {σ σ':L2.St} {H:Hp} {Γ Γ':G} {pos:Pos}
theorem o_:∀ {qs:List Addr} {σ:L2.St} {g i:Nat},g + qs.length≤i→(jD σ g qs)[i]?=σ[i]?
 | [],_,_,_,_=>rfl
 | q::qs,σ,g,i,h=>by unfold jD;simp at h;rw[o_ (by omega),aw (by omega)]
def Gr (g n:Nat) (σ σ':L2.St):Prop:=σ'.length=σ.length∧∀ i,¬ (g≤i∧i < g + n)→σ'[i]?=σ[i]?
def zY (g i:Nat) (o3:TE3) (b3:TS3) (D:E3) (Γ:G):Prop:=o3 Γ fun r Γ1=>qG r fun xss=>(∀ k,k < xss.length + 1→Γ1[g + k]?=some none)∧∀ p qs,qs.length=xss.length→∃ Iv:Nat→G→Prop,Iv 0 (ff Γ1 g (p::qs) (qs.map .adr::xss))∧
 (∀ k q Γ,qs[k]?=some q→Iv k Γ→Γ[g]?=some (some (.ow (.cel p (qs.map .adr))))∧bc Γ i∧b3 { D with nx:=Iv (k + 1),ct:=Iv (k + 1),bk:=fun _=>False } (Γ.set i (some (.fz (.adr q)))))∧
 ∀ Γ,Iv qs.length Γ→Γ[g]?=some (some (.ow (.cel p (qs.map .adr))))∧(∀ k d,g≤k→k < g + (qs.length + 1)→Γ[k]?≠some (some (.ln d)))∧D.nx (cM Γ g (qs.length + 1))
theorem xK {o:Expr} {to:TE} {o3:TE3} {x:Str} {px:Pos} {body:List Stmt} {tb:TS} {b3:TS3} (L g i:Nat) (hL:L≤g) (hi:i < L) (Ph:xp X L) (hK:X.K=K) (hp:PassesOwn (model X.prog X.w) X.A X.env X.xe) (hc:X.calm=true) (ho:P3 K X o to o3) (hg:PG X (.Name x px) (g0 i)) (hb:jB K X body tb b3) (hs:∀ x,foldedSetIterable o X.env x=pure x:=by intro _;rfl) :
  P3S K X (.For (.Name x px) o body [] pos) (xy (sW K to) (g0 i) (tGh L tb)) (zY g i o3 b3):=⟨by subst hK;exact qM hp hc (oa ho.pe) hg (qK Ph hb.pe) hs,fun B F σ H Γ D D3 en k q=>by
 refine ho.rf B F σ H Γ _ _ en q fun w H1 ⟨F1,Γ1,r,s1,e1,rv,q1⟩=>?_
 obtain⟨xss,rfl,hfree,q1⟩:=n3 q1
 obtain⟨p,qs,rfl,h1,h2,h3,h4⟩:=rv
 have hlen:=h3.length
 obtain⟨Iv,i0,it,ie⟩:=q1 p qs hlen
 have e2:=e1.rE (g:=g) (qs:=p::qs) (xss:=qs.map .adr::xss) ⟨_,_,_,rfl,h1,lO,h3⟩ h2 h4 fun k hk=>hfree k (by rw[← hlen];exact hk)
 refine⟨p,rfl,⟨_,SqL.of h1⟩,fun j m σ H=>m=qs.length - j∧j≤qs.length∧∃ F' σ' Γ',Gr g (qs.length + 1) σ σ'∧aE F1 F'∧En K B F' σ' H Γ'∧Iv j Γ',⟨_,rfl,Nat.zero_le _,F1,_,_,⟨j7,fun j hj=>?_⟩,aE.refl _,e2,i0⟩,?_⟩
 ·by_cases lt:j < g
  ·exact lJ lt
  ·exact o_ (by simp;omega)
 rintro j m σ2 H2 ⟨rfl,hj',F2,σ3,Γ2,gr,s2,e3,iv⟩
 have gh:∀ v,Gh L (σ2.set i (some v)) (σ3.set i (some v)):=fun v=>⟨by rw[List.length_set,List.length_set];exact gr.1,fun a lt=>by
  by_cases z:a=i
  ·subst z
   by_cases y:a < σ2.length
   ·rw[au y,au (by rw[gr.1];exact y)]
   ·rw[List.getElem?_eq_none (by rw[List.length_set];have:=gr.1;omega),List.getElem?_eq_none (by rw[List.length_set];omega)]
  ·rw[aw (Ne.symm z),aw (Ne.symm z)]
   exact gr.2 a (by omega)⟩
 by_cases lt:j < qs.length
 ·obtain⟨h0,hf,q4⟩:=it j qs[j] Γ2 (List.getElem?_eq_getElem lt) iv
  obtain⟨_,_,vs,c3,c4⟩:=e3.adr (.inl h0)
  obtain⟨v,hv,rv⟩:=c4.get (i:=j) (d:=.adr qs[j]) (by rw[List.getElem?_map,List.getElem?_eq_getElem lt];rfl)
  refine .inr ⟨⟨vs,v,SqL.of c3,hv⟩,fun σ' H'=>∃ F' Γ',aE F1 F'∧En K B F' σ' H' Γ'∧Iv (j + 1) Γ',fun σ' H' ⟨F',Γ',a,b,c⟩=>⟨qs.length - (j + 1),by omega,rfl,lt,F',σ',Γ',⟨rfl,fun _ _=>rfl⟩,a,b,c⟩,fun x H3 y=>?_⟩
  obtain⟨rfl,y⟩:=y
  have:=y vs (SqL.of c3)
  rw[hv] at this
  cases this
  refine⟨_,gh v,?_⟩
  exact hb.rf B F2 _ H3 _ _ { D3 with nx:=Iv (j + 1),ct:=Iv (j + 1),bk:=fun _=>False } (e3.set (r:=.fz (.adr qs[j])) hf rv) ⟨fun F' σ' H' Γ' s e q=>⟨F',Γ',s2.trans s,e,q⟩,fun F' σ' H' Γ' v r s e rv q=>k.rt F' σ' H' Γ' v r ((s1.trans s2).trans s) e rv q,fun F' σ' H' Γ' s e q=>False.elim q,fun F' σ' H' Γ' s e q=>⟨F',Γ',s2.trans s,e,q⟩⟩ q4
 ·have z:j=qs.length:=by omega
  subst z
  obtain⟨h0,hno,qn⟩:=ie Γ2 iv
  obtain⟨_,_,vs,c3,c4⟩:=e3.adr (.inl h0)
  have e4:En K B F2 σ3 H2 (cM Γ2 g (qs.length + 1)):=by
   have ins:∀ {a:Nat} {s:Sl},(cM Γ2 g (qs.length + 1))[a]?=some (some s)→¬ (g≤a∧a < g + (qs.length + 1)):=fun {a s} ha hb=>by
    have al:a < Γ2.length:=by rw[← dD (n:=qs.length + 1) (g:=g)];exact(List.getElem?_eq_some_iff.mp ha).1
    rw[jF hb.1 hb.2 al] at ha;cases ha
   have out:∀ {a:Nat},¬ (g≤a∧a < g + (qs.length + 1))→(cM Γ2 g (qs.length + 1))[a]?=Γ2[a]?:=fun {a} ha=>by
    by_cases y:a < g
    ·exact gi y
    ·exact jE (by omega)
   exact e3.weak dD (fun a s ha=>by rw[← out (ins ha)];exact ha) fun a d ha=>out fun hb=>hno a d hb.1 hb.2 ha
  have e5:En K B F2 σ2 H2 (cM Γ2 g (qs.length + 1)):=e4.sw gr.1.symm fun a s ha=>by
   have al:a < Γ2.length:=by rw[← dD (n:=qs.length + 1) (g:=g)];exact(List.getElem?_eq_some_iff.mp ha).1
   refine(gr.2 a fun hb=>?_).symm
   rw[jF hb.1 hb.2 al] at ha;cases ha
  exact .inl ⟨⟨vs,SqL.of c3,by rw[c4.length,List.length_map];omega⟩,k.nx F2 σ2 H2 _ (s1.trans s2) e5 qn⟩⟩
end
def qi:Option Sl→Option Sl
 | some (.ln d)=>some (.ln (bare d))
 | s=>s
def ir:Option Sl→Option Sl→Option Sl
 | some (.ln (.cel q _)),some (.ln (.lst ys))=>some (.ln (.cel q ys))
 | _,s=>s
def gZ:G→G→G
 | a::Γ,s::Γ'=>ir a s::gZ Γ Γ'
 | _,Γ'=>Γ'
def Eh (S:S3):S3:=fun Γ Q=>S (Γ.map qi) fun r Γ'=>Q r (gZ Γ Γ')
section
variable {K:PySem.W.Frag} {B:Bs} {F F':Hp} {σ σ':L2.St} {H:Hp} {Γ Γ':G}
theorem j_:∀ {Γ Γ':G} {i:Nat},(gZ Γ Γ')[i]?=match Γ[i]? with
  | some a=>Γ'[i]?.map (ir a)
  | none=>Γ'[i]?
 | [],Γ',i=>by simp [gZ]
 | a::Γ,[],i=>by cases h:(a::Γ)[i]? <;> simp [gZ]
 | a::Γ,s::Γ',0=>rfl
 | a::Γ,s::Γ',i + 1=>by simpa [gZ] using j_ (Γ:=Γ) (Γ':=Γ') (i:=i)
theorem ny:∀ {Γ Γ':G},(gZ Γ Γ').length=Γ'.length
 | [],Γ'=>rfl
 | a::Γ,[]=>rfl
 | a::Γ,s::Γ'=>by simp [gZ,ny (Γ:=Γ)]
theorem Own.bare {p:Addr}:∀ {d:D},Own K F H p d→Own K F H p (bare d)
 | .lst _,h=>h
 | .cel _ _,⟨_,vs,a,b⟩=>⟨vs,a,b⟩
 | .ins _ _ _,h=>h
theorem vQ {a s:Option Sl} {d:D} (h:ir a s=some (.fz d)):s=some (.fz d):=by
 unfold ir at h
 split at h
 ·cases h
 ·exact h
theorem pS {a s:Option Sl} {d:D} (h:ir a s=some (.ow d)):s=some (.ow d):=by
 unfold ir at h
 split at h
 ·cases h
 ·exact h
theorem pT {a s:Option Sl} {d:D} (h:ir a s=some (.ln d)):s=some (.ln d)∨∃ q xs ys,a=some (.ln (.cel q xs))∧s=some (.ln (.lst ys))∧d=.cel q ys:=by
 unfold ir at h
 split at h
 ·cases h;exact .inr ⟨_,_,_,rfl,rfl,rfl⟩
 ·exact .inl h
theorem iq {i:Nat} {s:Sl} (h:(gZ Γ Γ')[i]?=some (some s)):∃ a u,Γ'[i]?=some u∧ir a u=some s∧(a=none∨Γ[i]?=some a):=by
 rw[j_] at h
 split at h
 ·rename_i a ha
  cases q:Γ'[i]? with
  | none=>rw[q] at h;cases h
  | some u=>rw[q] at h;exact⟨a,u,rfl,by simpa using h,.inr ha⟩
 ·exact⟨none,some s,h,rfl,.inl rfl⟩
theorem l_ {i:Nat} {d:D} (h:Hld (gZ Γ Γ') i d):Hld Γ' i d∨∃ q xs ys,Γ[i]?=some (some (Sl.ln (.cel q xs)))∧Γ'[i]?=some (some (Sl.ln (.lst ys)))∧d=.cel q ys:=by
 rcases h with h | h
 ·obtain⟨a,u,h1,h2,_⟩:=iq h
  rw[pS h2] at h1
  exact .inl (.inl h1)
 ·obtain⟨a,u,h1,h2,h3⟩:=iq h
  rcases pT h2 with rfl | ⟨q,xs,ys,rfl,rfl,rfl⟩
  ·exact .inl (.inr h1)
  ·rcases h3 with h3 | h3
   ·cases h3
   ·exact .inr ⟨q,xs,ys,h3,h1,rfl⟩
theorem En.El (e:En K B F σ H Γ):En K B F σ H (Γ.map qi):=by
 have gt:∀ {i:Nat} {s:Sl},(Γ.map qi)[i]?=some (some s)→(∃ d,Γ[i]?=some (some (Sl.ln d))∧s=.ln (L3.bare d))∨(Γ[i]?=some (some s)∧∀ d,s≠.ln d):=fun {i s} h=>by
  rw[List.getElem?_map] at h
  cases q:Γ[i]? with
  | none=>rw[q] at h;cases h
  | some u=>
   rw[q] at h
   cases u with
   | none=>cases h
   | some u=>cases u with
    | ln d=>cases h;exact .inl ⟨d,rfl,rfl⟩
    | fz d=>cases h;exact .inr ⟨rfl,fun _ z=>by cases z⟩
    | ow d=>cases h;exact .inr ⟨rfl,fun _ z=>by cases z⟩
 have hl:∀ {i:Nat} {d:D},Hld (Γ.map qi) i d→∃ d0,Hld Γ i d0∧(d=d0∨d=L3.bare d0):=fun {i d} h=>by
  rcases h with h | h
  ·rcases gt h with ⟨d0,_,z⟩ | ⟨z,_⟩
   ·cases z
   ·exact⟨d,.inl z,.inl rfl⟩
  ·rcases gt h with ⟨d0,a,z⟩ | ⟨_,z⟩
   ·cases z;exact⟨d0,.inr a,.inr rfl⟩
   ·exact absurd rfl (z d)
 refine⟨e.sub,by rw[List.length_map];exact e.len,fun i d h=>?_,fun i d h=>?_,fun i d p h a=>?_,fun i d p h a=>?_,fun i j d d' p h1 h2=>?_,fun i p h=>?_,e.keep,e.new,e.rest,e.dom⟩
 ·rcases gt h with ⟨d0,_,z⟩ | ⟨z,_⟩
  ·cases z
  ·exact e.fz i d z
 ·obtain⟨d0,h0,z⟩:=hl h
  obtain⟨p,a,b,c⟩:=e.hl i d0 h0
  rcases z with rfl | rfl
  ·exact⟨p,a,b,c⟩
  ·exact⟨p,a,b,c.bare⟩
 ·rcases gt h with ⟨d0,_,z⟩ | ⟨z,_⟩
  ·cases z
  ·exact e.ow i d p z a
 ·rcases gt h with ⟨d0,w,z⟩ | ⟨_,z⟩
  ·exact e.ln i d0 p w a
  ·exact absurd rfl (z d)
 ·obtain⟨d1,h1,_⟩:=hl h1
  obtain⟨d2,h2,_⟩:=hl h2
  exact e.dis i j d1 d2 p h1 h2
 ·obtain⟨a,d,b⟩:=e.par i p h
  exact⟨a,_,by rw[List.getElem?_map,b];rfl⟩
theorem En.Dx {B0:Bs} {F0 H0:Hp} (e0:En K B0 F0 σ H0 Γ) (e:En K B F σ H Γ'):En K B F σ H (gZ Γ Γ'):=by
 have hl:∀ {i:Nat} {d:D},Hld (gZ Γ Γ') i d→∃ d0,Hld Γ' i d0:=fun h=>by
  rcases l_ h with h | ⟨_,_,_,_,h,_⟩
  ·exact⟨_,h⟩
  ·exact⟨_,.inr h⟩
 refine⟨e.sub,by rw[ny];exact e.len,fun i d h=>?_,fun i d h=>?_,fun i d p h a=>?_,fun i d p h a=>?_,fun i j d d' p h1 h2=>?_,fun i p h=>?_,e.keep,e.new,e.rest,e.dom⟩
 ·obtain⟨a,u,h1,h2,_⟩:=iq h
  rw[vQ h2] at h1
  exact e.fz i d h1
 ·rcases l_ h with h | ⟨q,xs,ys,h1,h2,rfl⟩
  ·exact e.hl i d h
  ·obtain⟨p,a,b,c⟩:=e.hl i _ (.inr h2)
   obtain⟨a',_⟩:=e0.adr (.inr h1)
   rw[a] at a'
   cases a'
   exact⟨_,a,b,rfl,c⟩
 ·obtain⟨a',u,h1,h2,_⟩:=iq h
  rw[pS h2] at h1
  exact e.ow i d p h1 a
 ·obtain⟨a',u,h1,h2,_⟩:=iq h
  rcases pT h2 with rfl | ⟨q,xs,ys,_,rfl,_⟩
  ·exact e.ln i d p h1 a
  ·exact e.ln i _ p h1 a
 ·obtain⟨d1,h1⟩:=hl h1
  obtain⟨d2,h2⟩:=hl h2
  exact e.dis i j d1 d2 p h1 h2
 ·obtain⟨a,d,b⟩:=e.par i p h
  refine⟨a,?_⟩
  rw[j_,b]
  cases w:Γ[i]? with
  | none=>exact⟨d,rfl⟩
  | some s=>
   show ∃ d',some (ir s (some (Sl.ln d)))=some (some (Sl.ln d'))
   unfold ir
   split
   ·exact⟨_,rfl⟩
   ·exact⟨_,rfl⟩
variable {P:Program} {w:World} {mg:Str→Option Value} {base:Heap}
theorem Cp {k n:Nat} {f:Addr} {fd:FuncData} {ps:List Str} {S:S3} (F:bK P w K mg base CX0 k f fd ps (sp3 K n S)):bK P w K mg base CX0 k f fd ps (sp3 K n (Eh S)):=
 F.imp fun vs H Q E ⟨hl,F0,own,Γa,Q3,e,hno,hs,hq⟩=>⟨hl,F0,own,Γa.map qi,_,e.El,fun k d h=>by
  rw[List.getElem?_map] at h
  cases q:Γa[k]? with
  | none=>rw[q] at h;cases h
  | some u=>
   rw[q] at h
   cases u with
   | none=>cases h
   | some u=>cases u with
    | ln d=>cases h
    | fz d=>cases h
    | ow d=>exact hno k d q,hs,fun r Γ' q v H' F' e' rv=>hq r _ q v H' F' (e.Dx e') (dC.weak (Γ:=Γ') (fun i d h=>by
   rcases l_ h with h | ⟨_,_,_,_,h,_⟩
   ·exact⟨_,h⟩
   ·exact⟨_,.inr h⟩) rv)⟩
end
end L3
namespace L2
open PySem PySem.Spec PyProof.Rows
section
variable {X:Cx}
theorem Bi:OpR X (compareOp .Is) (fun x y H Q=>∃ a b,x=.bl a∧y=.bl b∧Q (.bl (decide (a=b))) H):=by
 intro pins s σ H x y v u Q I rx ry h
 obtain⟨a,b,rfl,rfl,q⟩:=h
 cases rx;cases ry
 exact PySem.wpAny_is_plain (by cases a <;> cases b <;> rfl) (oF I q (by cases a <;> cases b <;> rfl))
theorem yj:OpR X (compareOp .IsNot) (fun x y H Q=>∃ a b,x=.bl a∧y=.bl b∧Q (.bl (!decide (a=b))) H):=by
 intro pins s σ H x y v u Q I rx ry h
 obtain⟨a,b,rfl,rfl,q⟩:=h
 cases rx;cases ry
 exact PySem.wpAny_isNot_plain (by cases a <;> cases b <;> rfl) (oF I q (by cases a <;> cases b <;> rfl))
end
end L2
namespace L3
open PySem L2 PySem.Spec PyProof.Rows
section
variable {K:PySem.W.Frag} {X:Cx} {B:Bs} {F F':Hp} {σ σ':L2.St} {H:Hp} {Γ Γ':G} {pos:Pos}
def wg (neg:Bool) (x y:D) (Γ:G) (Q:RV→G→Prop):Prop:=match x,y with
 | .bl a,.bl b=>Q (.fz (.bl (neg ^^ decide (a=b)))) Γ
 | _,_=>False
theorem xa:C3 K X .Is (fun x y H Q=>∃ a b,x=.bl a∧y=.bl b∧Q (.bl (decide (a=b))) H) (wg false):=⟨Bi,fun B F σ H Γ x y dx dy Q QQ e rx ry q k=>by
 unfold wg at q
 split at q
 ·cases rx;cases ry
  exact⟨_,_,rfl,rfl,k _ _ (jK e (by simpa using q))⟩
 ·exact q.elim⟩
theorem y7:C3 K X .IsNot (fun x y H Q=>∃ a b,x=.bl a∧y=.bl b∧Q (.bl (!decide (a=b))) H) (wg true):=⟨yj,fun B F σ H Γ x y dx dy Q QQ e rx ry q k=>by
 unfold wg at q
 split at q
 ·cases rx;cases ry
  exact⟨_,_,rfl,rfl,k _ _ (jK e (by simpa using q))⟩
 ·exact q.elim⟩
def dm3 (ds:List D) (Γ:G) (Q:RV→G→Prop):Prop:=match ds with
 | [.int i,.int j]=>uC i j∧Q (.fz (.tup [.int (i / j),.int (i % j)])) Γ
 | _=>False
theorem w9:B3 K X (.builtin "divmod") (fun xs H Q=>∃ i j,xs=[.int i,.int j]∧uC i j∧∀ p,H p=none→Q (.ref p) (upd H p (.tup [.int (i / j),.int (i % j)]))) dm3:=⟨qf,by
 intro B F σ H Γ vs ds Q QQ e r q k
 unfold dm3 at q
 split at q
 ·obtain⟨v,w,rfl,h,h'⟩:=r.two
  cases h;cases h'
  exact⟨_,_,rfl,q.1,fun p hp=>k _ _ (n_ (xs:=[.int _,.int _]) e hp ⟨_,_,rfl,rfl,_,_,rfl,rfl,rfl⟩ q.2)⟩
 ·exact q.elim⟩
end
theorem xf {xs:List D}:bare (.lst xs)=.lst xs:=rfl
theorem xg {C:Addr} {ns:List Str} {xs:List D}:bare (.ins C ns xs)=.ins C ns xs:=rfl
theorem xh {q:Addr} {xs:List D}:bare (.cel q xs)=.lst xs:=rfl
def tlG (T:G):G:=T
def nn (m:Nat):G:=List.replicate m none
def tlE:G:=[]
def phs (m:Nat):List Str:=(List.range m).map fun i=>⟨#[0,i]⟩
theorem gy {N:List Str} {Γa:G} {m:Nat} (h:Γa.length≤N.length):cI (N++phs m) Γa=Γa++(List.replicate (N.length - Γa.length) none++tlG (nn m++tlE)):=by
 unfold cI phs nn tlG tlE
 rw[List.append_nil,List.length_append,List.length_map,List.length_range,List.replicate_append_replicate,show N.length + m - Γa.length=N.length - Γa.length + m by omega]
def mw (k:Nat) (ls:List (Option Nat)) (Γ cs:G):G:=Γ.mapIdx fun i s=>fM (newD ls cs (i + k)) s
def lsB:List (Option Nat)→Nat→Bool
 | [],_=>true
 | none::l,k=>lsB l k
 | some j::l,k=>decide (j < k) && lsB l k
section
variable {Γ cs T:G} {ls:List (Option Nat)} {k:Nat} {s:Option Sl}
theorem y8:aT ls Γ cs=mw 0 ls Γ cs:=rfl
theorem uu:mw k ls [] cs=[]:=rfl
theorem rS:mw k ls (s::Γ) cs=fM (newD ls cs k) s::mw (k + 1) ls Γ cs:=by
 unfold mw
 rw[List.mapIdx_cons,Nat.zero_add]
 congr 2
 funext i s
 rw[Nat.add_right_comm,Nat.add_assoc]
theorem rg:∀ {ls:List (Option Nat)},lsB ls k=true→∀ {j:Nat},k≤j→∀ a:Nat,ls[a]?≠some (some j)
 | [],_,j,_,a,h=>by simp at h
 | none::l,hb,j,hj,0,h=>by simp at h
 | none::l,hb,j,hj,a + 1,h=>rg (ls:=l) hb hj a (by simpa using h)
 | some i::l,hb,j,hj,0,h=>by
  have hb:(decide (i < k) && lsB l k)=true:=hb
  rw[Bool.and_eq_true] at hb
  have:=of_decide_eq_true hb.1
  simp at h;omega
 | some i::l,hb,j,hj,a + 1,h=>by
  have hb:(decide (i < k) && lsB l k)=true:=hb
  rw[Bool.and_eq_true] at hb
  exact rg (ls:=l) hb.2 hj a (by simpa using h)
theorem mv {s:Option Sl}:fM none s=s:=by
 cases s with
 | none=>rfl
 | some s=>cases s <;> rfl
theorem xi (h:lsB ls k=true):mw k ls (tlG T) cs=tlG T:=by
 unfold mw tlG
 apply List.ext_getElem?
 intro i
 rw[List.getElem?_mapIdx,ox fun a=>rg h (Nat.le_add_left k i) a]
 cases T[i]? with
 | none=>rfl
 | some s=>simp [mv]
theorem yz:lsB [] k=true:=rfl
theorem vZ {l:List (Option Nat)}:lsB (none::l) k=lsB l k:=rfl
theorem vY {l:List (Option Nat)} {j:Nat}:lsB (some j::l) k=(decide (j < k) && lsB l k):=rfl
end
section
variable {fr:List (Option Nat)} {i3:TI3} {g3:TG3} {e3:TE3} {o3 k3:TB3} {b3 u3 t3:TS3} {Γ:G} {Q:RV→G→Prop} {D1:E3} {K:PySem.W.Frag}
def wO (fr:List (Option Nat)) (i3:TI3) (g3:TG3) (e3:TE3) (Γ:G) (Q:RV→G→Prop) (_:Tag (fr,i3,g3,e3)) (_:Tag Q):Prop:=oO fr i3 g3 e3 Γ Q
theorem yU:oO fr i3 g3 e3 Γ Q=wO fr i3 g3 e3 Γ Q ⟨⟩ ⟨⟩:=rfl
abbrev hR (Iv:Nat→List (List D)→G→Prop) (k:Nat) (ys:List (List D)) (Γ:G) (_:Tag Iv):Prop:=Iv k ys Γ
def wN (xs:List D) (Γ1:G) (fr:List (Option Nat)) (g3:TG3) (e3:TE3) (Q:RV→G→Prop) (_:Tag (fr,g3,e3,Q)):Prop:=∃ Iv:Nat→List (List D)→G→Prop,Iv 0 [] (cC Γ1 (cW fr))∧
 (∀ k d ys Γc,xs[k]?=some d→ys.length=k→Iv k ys Γc→g3 d Γc fun Γ2=>e3 Γ2 fun r Γ3=>frL r fun zs=>Iv (k + 1) (ys++[zs]) Γ3)∧∀ ys Γc,ys.length=xs.length→Iv xs.length ys Γc→Q (.rws ys) (aT fr Γ1 Γc)
theorem yF {t1:Tag (fr,i3,g3,e3)} {t2:Tag Q}:wO fr i3 g3 e3 Γ Q t1 t2=(i3 Γ fun xs Γ1=>xs.length < sizeLine∧wN xs Γ1 fr g3 e3 Q ⟨⟩):=rfl
theorem kh {xs:List D} {Γ1:G} {t:Tag (fr,g3,e3,Q)} (Iv:Nat→List (List D)→G→Prop) (h0:Iv 0 [] (cC Γ1 (cW fr)))
  (hs:∀ k d ys Γc,xs[k]?=some d→ys.length=k→Iv k ys Γc→g3 d Γc fun Γ2=>e3 Γ2 fun r Γ3=>frL r fun zs=>hR Iv (k + 1) (ys++[zs]) Γ3 ⟨⟩) (he:∀ ys Γc,ys.length=xs.length→Iv xs.length ys Γc→Q (.rws ys) (aT fr Γ1 Γc)):wN xs Γ1 fr g3 e3 Q t:=⟨Iv,h0,hs,he⟩
def Eu (j:Nat) (ob:Option D) (d:D) (Γ:G) (N:G→Prop) (_:Tag N):Prop:=∃ q xs k n,Hld Γ j (.cel q xs)∧ob=some (.int k)∧ixN xs.length k=some n∧N (iT Γ j (xs.set n d))
theorem BW:zz o3 k3 e3 D1 Γ=(e3 Γ fun r Γ1=>o3 Γ1 fun bo Γ2=>vB bo fun j=>k3 Γ2 fun b Γ3=>Eu j (b.at Γ3) r.d Γ3 D1.nx ⟨⟩):=rfl
theorem Cw {q:Addr} {k:Addr→Prop}:zl (.fz (.adr q)) k=k q:=rfl
theorem AJ {xss:List (List D)} {k:List (List D)→Prop}:qG (.rws xss) k=k xss:=rfl
theorem EV {j:Nat} {k:Nat→Prop}:vB (.v j) k=k j:=rfl
def uz (q:Addr) (Γ:G) (Q:Bo→G→Prop) (_:Tag Q):Prop:=∃ j xs,Hld Γ j (.cel q xs)∧Q (.v j) Γ
theorem B6 {QB:Bo→G→Prop}:xb e3 Γ QB=(e3 Γ fun r Γ1=>zl r fun q=>uz q Γ1 QB ⟨⟩):=rfl
theorem oY {q:Addr} {QB:Bo→G→Prop} {t:Tag QB} (j:Nat) {xs:List D} (h:Hld Γ j (.cel q xs)) (hq:QB (.v j) Γ):uz q Γ QB t:=⟨j,xs,h,hq⟩
def zJ (j:Nat) (Γ1:G) (g3:TG3) (b3:TS3) (E1:E3) (_:Tag (g3,b3,E1)):Prop:=∃ q,(∃ xs,Hld Γ1 j (.cel q xs))∧∃ (n:Nat) (Iv:Nat→G→Prop),Iv 0 Γ1∧
 (∀ k Γ,k < n→Iv k Γ→∃ xs d,Hld Γ j (.cel q xs)∧xs[k]?=some d∧g3 d Γ fun Γ'=>b3 { E1 with nx:=Iv (k + 1),ct:=Iv (k + 1),bk:=E1.nx } Γ')∧∀ Γ,Iv n Γ→(∃ xs,Hld Γ j (.cel q xs)∧xs.length=n)∧E1.nx Γ
theorem B2:wF o3 g3 b3 D1 Γ=(o3 Γ fun bo Γ1=>vB bo fun j=>zJ j Γ1 g3 b3 D1 ⟨⟩):=rfl
theorem v5 {j:Nat} {Γ1:G} {E1:E3} {t:Tag (g3,b3,E1)} (q:Addr) {xs:List D} (h:Hld Γ1 j (.cel q xs)) (n:Nat) (Iv:Nat→G→Prop) (h0:Iv 0 Γ1)
  (hs:∀ k Γ,k < n→Iv k Γ→∃ xs d,Hld Γ j (.cel q xs)∧xs[k]?=some d∧g3 d Γ fun Γ'=>b3 { E1 with nx:=fun Γ=>hI Iv (k + 1) Γ ⟨⟩,ct:=fun Γ=>hI Iv (k + 1) Γ ⟨⟩,bk:=E1.nx } Γ') (he:∀ Γ,Iv n Γ→(∃ xs,Hld Γ j (.cel q xs)∧xs.length=n)∧E1.nx Γ):zJ j Γ1 g3 b3 E1 t:=⟨q,⟨_,h⟩,n,Iv,h0,hs,he⟩
def Cs (j:Nat) (Γ:G) (d:D) (Q:RV→G→Prop) (_:Tag Q):Prop:=∃ q xs,Hld Γ j (.cel q xs)∧xs.length < sizeLine∧Q (.fz .non) (iT Γ j (xs++[d]))
def wo (j:Nat) (Γ:G):Prop:=∃ q xs,Hld Γ j (.cel q xs)
theorem B7:tJ o3 e3 Γ Q=(o3 Γ fun bo Γ1=>vB bo fun j=>wo j Γ1∧e3 Γ1 fun r Γ2=>Cs j Γ2 r.d Q ⟨⟩):=rfl
def AS (g i:Nat) (xss:List (List D)) (Γ1:G) (u3:TS3) (E1:E3) (_:Tag (u3,E1)):Prop:=bc Γ1 i∧(∀ k,k < xss.length + 1→Γ1[g + k]?=some none)∧∀ p qs,qs.length=xss.length→u3 E1 (ff (Γ1.set i (some (.fz (.adr p)))) g (p::qs) (qs.map .adr::xss))
theorem BV {g i:Nat}:zy g i e3 u3 D1 Γ=(e3 Γ fun r Γ1=>qG r fun xss=>AS g i xss Γ1 u3 D1 ⟨⟩):=rfl
def wkH (K:PySem.W.Frag) (t3:TS3) (E1:E3) (Γ:G) (_:Tag (t3,E1)):Prop:=wk3 K t3 E1 Γ
theorem FR:wk3 K t3 D1 Γ=wkH K t3 D1 Γ ⟨⟩:=rfl
theorem r_ {t:Tag (t3,D1)} {Γ':G} (h:Wk K Γ Γ') (q:t3 D1 Γ'):wkH K t3 D1 Γ t:=⟨Γ',h,q⟩
def tfH (i g:Nat) (e3:TE3) (Γ:G) (Q:RV→G→Prop) (_:Tag (e3,Q)):Prop:=tf3 i g e3 Γ Q
theorem FT {i g:Nat}:tf3 i g e3 Γ Q=tfH i g e3 Γ Q ⟨⟩:=rfl
theorem CL {i g:Nat} {t:Tag (e3,Q)} {p:Addr} {qs:List Addr} {xss:List (List D)} (h:qv Γ i g p qs xss) (n:CB Γ g (qs.length + 1)) (q:e3 (fq Γ i g qs.length xss) fun r Γ2=>Γ2=fq Γ i g qs.length xss∧yp r=true∧Q r Γ):tfH i g e3 Γ Q t:=⟨p,qs,xss,h,n,q⟩
def w5 (n L:Nat) (S:S3) (bs:List Bo) (Γ1:G) (Q:RV→G→Prop) (_:Tag (S,Q)):Prop:=∃ gs:List Nat,(cn bs++gs).Nodup∧(∀ g,g∈gs→∃ d,Γ1[g]?=some (some (Sl.ow d)))∧
 S (cC Γ1 (bs.map some++List.replicate (L - n) none++gs.map fun g=>some (Bo.v g))) fun r Γa=>Q r (aT ((bs.map some).map aS) (jT Γ1 gs) Γa)
theorem yH {n L:Nat} {S:S3} {t3:fI}:rP n L S t3 Γ Q=(t3 Γ fun bs Γ1=>bs.length=n∧w5 n L S bs Γ1 Q ⟨⟩):=rfl
def zG (g i:Nat) (xss:List (List D)) (Γ1:G) (b3:TS3) (E1:E3) (_:Tag (b3,E1)):Prop:=(∀ k,k < xss.length + 1→Γ1[g + k]?=some none)∧∀ p qs,qs.length=xss.length→∃ Iv:Nat→G→Prop,Iv 0 (ff Γ1 g (p::qs) (qs.map .adr::xss))∧
 (∀ k q Γ,qs[k]?=some q→Iv k Γ→Γ[g]?=some (some (.ow (.cel p (qs.map .adr))))∧bc Γ i∧b3 { E1 with nx:=Iv (k + 1),ct:=Iv (k + 1),bk:=fun _=>False } (Γ.set i (some (.fz (.adr q)))))∧
 ∀ Γ,Iv qs.length Γ→Γ[g]?=some (some (.ow (.cel p (qs.map .adr))))∧(∀ k d,g≤k→k < g + (qs.length + 1)→Γ[k]?≠some (some (.ln d)))∧E1.nx (cM Γ g (qs.length + 1))
theorem B1 {g i:Nat}:zY g i e3 b3 D1 Γ=(e3 Γ fun r Γ1=>qG r fun xss=>zG g i xss Γ1 b3 D1 ⟨⟩):=rfl
end
end L3
namespace L3
open PySem L2 PySem.Spec PyProof.Rows
def gh (c:D→Sl) (p:Addr) (ds:List D) (qs:List Addr) (xss:List (List D)):G:=some (c (.cel p ds))::List.zipWith (fun q xs=>some (c (.cel q xs))) qs xss
section
variable {c:D→Sl} {p q:Addr} {ds:List D} {qs:List Addr} {xs ys:List D} {xss:List (List D)} {T T' pre:G} {L g n m y:Nat} {K:PySem.W.Frag}
theorem dX (h:qs.length=xss.length):(gh c p ds qs xss).length=qs.length + 1:=by
 unfold gh
 rw[List.length_cons,List.length_zipWith,← h,Nat.min_self]
theorem nH (hq:qs[y]?=some q) (hx:xss[y]?=some xs):(gh c p ds qs xss++T)[1 + y]?=some (some (c (.cel q xs))):=by
 rw[Nat.add_comm]
 unfold gh
 rw[List.cons_append,List.getElem?_cons_succ,List.getElem?_append_left (by
  rw[List.length_zipWith]
  have:=(List.getElem?_eq_some_iff.mp hq).1
  have:=(List.getElem?_eq_some_iff.mp hx).1
  omega),List.getElem?_zipWith,hq,hx]
theorem bV {j:Nat} (h:pre.length=L):(pre++T)[L + j]?=T[j]?:=by
 subst h
 rw[List.getElem?_append_right (Nat.le_add_right _ _),Nat.add_sub_cancel_left]
theorem lC {d:D} {j:Nat} (h:pre.length=L) (hj:Hld T j d):Hld (pre++tlG T) (L + j) d:=by
 unfold Hld tlG at *
 rw[bV h];exact hj
theorem fK {j:Nat} {s:Option Sl} (h:pre.length=L):(pre++T).set (L + j) s=pre++T.set j s:=by
 subst h
 rw[List.set_append_right _ _ (Nat.le_add_right _ _),Nat.add_sub_cancel_left]
theorem lQ {j:Nat} (h:pre.length=L):iT (pre++tlG T) (L + j) ys=pre++tlG (iT T j ys):=by
 unfold iT tlG
 rw[bV h]
 split
 ·rw[fK h]
 ·rw[fK h]
 ·rfl
theorem uD {f:Addr→List D→Option Sl}:∀ {qs:List Addr} {xss:List (List D)} {y:Nat} {q:Addr},qs[y]?=some q→(List.zipWith f qs xss).set y (f q ys)=List.zipWith f qs (xss.set y ys)
 | [],_,_,_,h=>by simp at h
 | a::qs,[],y,q,h=>by simp
 | a::qs,x::xss,0,q,h=>by simp at h;subst h;rfl
 | a::qs,x::xss,y + 1,q,h=>by
  simp only[List.zipWith_cons_cons,List.set_cons_succ]
  rw[uD (qs:=qs) (by simpa using h)]
theorem wy (hq:qs[y]?=some q) (hx:y < xss.length):(gh c p ds qs xss++T).set (1 + y) (some (c (.cel q ys)))=gh c p ds qs (xss.set y ys)++T:=by
 rw[Nat.add_comm]
 unfold gh
 rw[List.cons_append,List.set_cons_succ,List.set_append_left _ _ (by
  rw[List.length_zipWith]
  have:=(List.getElem?_eq_some_iff.mp hq).1
  omega),← uD (f:=fun q xs=>some (c (.cel q xs))) hq]
 rfl
theorem sC (hc:c=Sl.ow∨c=Sl.ln) (hq:qs[y]?=some q) (hx:y < xss.length):iT (gh c p ds qs xss++T) (1 + y) ys=gh c p ds qs (xss.set y ys)++T:=by
 unfold iT
 rw[nH hq (List.getElem?_eq_getElem hx)]
 rcases hc with rfl | rfl <;> exact wy hq hx
theorem vj (hc:c=Sl.ow∨c=Sl.ln):iT (gh c p ds qs xss++T) 0 ys=gh c p ys qs xss++T:=by
 rcases hc with rfl | rfl <;> rfl
theorem j9:∀ {qs:List Addr} {xss:List (List D)} {T:G} {g:Nat},pre.length=L→ff (pre++T) (L + g) qs xss=pre++ff T g qs xss
 | [],_,_,_,_=>by unfold ff;rfl
 | _::_,[],_,_,_=>by unfold ff;rfl
 | q::qs,x::xss,T,g,h=>by
  unfold ff
  rw[fK h,show L + g + 1=L + (g + 1) by omega,j9 h]
theorem lL:∀ {qs:List Addr} {xss:List (List D)} {m:Nat} {A:G},qs.length=xss.length→qs.length≤m→ff (A++(nn m++T)) A.length qs xss=A++(List.zipWith (fun q xs=>some (Sl.ow (.cel q xs))) qs xss++(nn (m - qs.length)++T))
 | [],[],m,A,_,_=>rfl
 | q::qs,x::xss,0,A,_,h=>by simp at h
 | q::qs,x::xss,m + 1,A,hl,h=>by
  unfold ff
  have e:(A++(nn (m + 1)++T)).set A.length (some (Sl.ow (.cel q x)))=(A++[some (Sl.ow (.cel q x))])++(nn m++T):=by
   rw[List.set_append_right _ _ (Nat.le_refl _),Nat.sub_self]
   unfold nn
   rw[List.replicate_succ]
   simp
  rw[e,show A.length + 1=(A++[some (Sl.ow (D.cel q x))]).length by simp,lL (by simpa using hl) (by simpa using h)]
  simp
theorem uV (h:pre.length=L) (hl:qs.length=xss.length) (hm:qs.length + 1≤m):ff (pre++tlG (nn m++T)) L (p::qs) (qs.map .adr::xss)=pre++tlG (gh .ow p (qs.map .adr) qs xss++(nn (m - (qs.length + 1))++T)):=by
 unfold tlG
 have:=j9 (pre:=pre) (L:=L) (g:=0) (T:=nn m++T) (qs:=p::qs) (xss:=qs.map .adr::xss) h
 rw[Nat.add_zero] at this
 rw[this]
 have e:=lL (T:=T) (A:=[]) (qs:=p::qs) (xss:=qs.map .adr::xss) (m:=m) (by simp [hl]) (by simpa using hm)
 simp only[List.nil_append,List.length_nil] at e
 rw[e]
 simp [gh]
theorem m5 {A:G} (h:pre.length=L) (hA:A.length=g) (hl:qs.length=xss.length) (hm:qs.length + 1≤m):ff (pre++tlG (A++(nn m++T))) (L + g) (p::qs) (qs.map .adr::xss)=pre++tlG (A++(gh .ow p (qs.map .adr) qs xss++(nn (m - (qs.length + 1))++T))):=by
 unfold tlG
 rw[j9 h]
 subst hA
 rw[lL (by simp [hl]) (by simpa using hm)]
 simp [gh]
theorem vP {k:Nat} (h:k < m):(nn m++T)[k]?=some none:=by
 unfold nn
 rw[List.getElem?_append_left (by simpa using h),List.getElem?_replicate,if_pos h]
theorem yq (h:pre.length=L) (hm:n≤m):∀ k,k < n→(pre++tlG (nn m++T))[L + k]?=some none:=fun k hk=>by
 unfold tlG
 rw[bV h];exact vP (Nat.lt_of_lt_of_le hk hm)
theorem pR {A:G} (h:pre.length=L) (hA:A.length=g) (hm:n≤m):∀ k,k < n→(pre++tlG (A++(nn m++T)))[L + g + k]?=some none:=fun k hk=>by
 unfold tlG
 rw[Nat.add_assoc,bV h,bV hA];exact vP (Nat.lt_of_lt_of_le hk hm)
theorem j8:∀ {n:Nat} {T:G} {g:Nat},pre.length=L→cM (pre++T) (L + g) n=pre++cM T g n
 | 0,_,_,_=>rfl
 | n + 1,T,g,h=>by
  unfold cM
  rw[fK h,show L + g + 1=L + (g + 1) by omega,j8 h]
theorem lK:∀ {n:Nat} {A Z:G},Z.length=n→cM (A++(Z++T)) A.length n=A++(nn n++T)
 | 0,A,[],_=>rfl
 | n + 1,A,[],h=>by simp at h
 | 0,A,z::Z,h=>by simp at h
 | n + 1,A,z::Z,h=>by
  unfold cM
  have e:(A++(z::Z++T)).set A.length none=(A++[none])++(Z++T):=by
   rw[List.set_append_right _ _ (Nat.le_refl _),Nat.sub_self]
   simp
  rw[e,show A.length + 1=(A++[none]).length by simp,lK (by simpa using h)]
  unfold nn
  rw[List.replicate_succ]
  simp
theorem ou {a b:Nat}:nn a++(nn b++T)=nn (a + b)++T:=by
 unfold nn
 rw[← List.append_assoc,List.replicate_append_replicate]
theorem s_ {i:Nat} (h:pre.length=L) (hi:i < L) (hl:qs.length=xss.length):fq (pre++tlG (gh .ow p ds qs xss++(nn m++T))) i L qs.length xss=pre.set i (some (.fz (.lst (xss.map .lst))))++tlG (nn (qs.length + 1 + m)++T):=by
 unfold fq tlG
 have e:=j8 (pre:=pre) (L:=L) (g:=0) (T:=gh .ow p ds qs xss++(nn m++T)) (n:=qs.length + 1) h
 rw[Nat.add_zero] at e
 rw[e]
 have e2:=lK (T:=nn m++T) (A:=[]) (Z:=gh .ow p ds qs xss) (n:=qs.length + 1) (dX hl)
 simp only[List.nil_append,List.length_nil] at e2
 rw[e2,ou,List.set_append_left _ _ (by rw[h];exact hi)]
theorem qv.of {i:Nat} (h:pre.length=L) (hi:i < L) (hn:pre[i]?=some (some (Sl.fz (.adr p)))) (hl:qs.length=xss.length):qv (pre++tlG (gh .ow p (qs.map .adr) qs xss++T)) i L p qs xss where
 nm:=by rw[List.getElem?_append_left (by rw[h];exact hi)];exact hn
 lt:=hi
 at0:=by
  have:=bV (pre:=pre) (T:=tlG (gh .ow p (qs.map .adr) qs xss++T)) (j:=0) h
  rw[Nat.add_zero] at this
  rw[this];rfl
 len:=hl.symm
 ats:=fun k q xs hq hx=>by
  rw[Nat.add_assoc,bV h]
  exact nH hq hx
def GA (T:G):Prop:=∀ (k:Nat) (d:D),T[k]?≠some (some (Sl.ln d))
theorem yK:GA (gh .ow p ds qs xss):=fun k d h=>by
 unfold gh at h
 cases k with
 | zero=>cases h
 | succ k=>
  rw[List.getElem?_cons_succ,List.getElem?_zipWith] at h
  cases q:qs[k]? with
  | none=>rw[q] at h;cases h
  | some a=>cases x:xss[k]? with
   | none=>rw[q,x] at h;cases h
   | some b=>rw[q,x] at h;cases h
theorem AL {R:List (List Int)}:List.map D.lst (List.map (fun r=>List.map D.int r) R)=List.map (fun ns=>D.lst (ns.map D.int)) R:=by rw[List.map_map];rfl
theorem As:(tlG (gh c p ds qs xss++T))[0]?=some (some (c (.cel p ds))):=rfl
theorem gK (hc:c=Sl.ow∨c=Sl.ln):Hld (gh c p ds qs xss++T) 0 (.cel p ds):=by
 rcases hc with rfl | rfl
 ·exact .inl rfl
 ·exact .inr rfl
theorem mh (hc:c=Sl.ow∨c=Sl.ln) (hq:qs[y]?=some q) (hx:xss[y]?=some xs):Hld (gh c p ds qs xss++T) (1 + y) (.cel q xs):=by
 rcases hc with rfl | rfl
 ·exact .inl (nH hq hx)
 ·exact .inr (nH hq hx)
section
variable {Γ:G} {QB:Bo→G→Prop} {t:Tag QB}
theorem qq (h:Γ=pre++tlG (gh c p ds qs xss++T)) (hp:pre.length=L) (hc:c=Sl.ow∨c=Sl.ln) (hQ:QB (.v L) Γ):uz p Γ QB t:=by
 subst h
 exact oY L (lC (j:=0) hp (gK hc)) hQ
theorem qr (h:Γ=pre++tlG (gh c p ds qs xss++T)) (hp:pre.length=L) (hc:c=Sl.ow∨c=Sl.ln) (hq:qs[y]?=some q) (hx:xss[y]?=some xs) (hQ:QB (.v (L + (1 + y))) Γ):uz q Γ QB t:=by
 subst h
 exact oY _ (lC hp (mh hc hq hx)) hQ
end
theorem qp {Γ:G} {N:G→Prop} {t:Tag N} {ob:Option D} {d:D} {k:Int} (h:Γ=pre++tlG (gh c p ds qs xss++T)) (hp:pre.length=L) (hc:c=Sl.ow∨c=Sl.ln) (hq:qs[y]?=some q) (hx:xss[y]?=some xs) (hk:ob=some (.int k)) (hn:ixN xs.length k=some n) (hN:N (pre++tlG (gh c p ds qs (xss.set y (xs.set n d))++T))):Eu (L + (1 + y)) ob d Γ N t:=by
 subst h
 refine⟨q,xs,k,n,lC hp (mh hc hq hx),hk,hn,?_⟩
 rw[lQ hp,sC hc hq (List.getElem?_eq_some_iff.mp hx).1]
 exact hN
theorem n8 {Γ1:G} {u3:TS3} {E1:E3} {t:Tag (u3,E1)} {i:Nat} (h:Γ1=pre++tlG (nn m++T)) (hp:pre.length=L) (hi:i < L) (hf:bc pre i) (hm:xss.length + 1≤m) (hq:∀ p qs,qs.length=xss.length→u3 E1 (pre.set i (some (.fz (.adr p)))++tlG (gh .ow p (qs.map .adr) qs xss++(nn (m - (qs.length + 1))++T)))):AS L i xss Γ1 u3 E1 t:=by
 subst h
 refine⟨?_,yq hp hm,fun p qs hl=>?_⟩
 ·unfold bc at hf ⊢
  rw[List.getElem?_append_left (by rw[hp];exact hi)]
  exact hf
 ·rw[List.set_append_left _ _ (by rw[hp];exact hi),uV (by rw[List.length_set];exact hp) hl (by rw[hl];exact hm)]
  exact hq p qs hl
theorem wkR {i:Nat} (hp:pre.length=L) (hi:i < L) (hn:pre[i]?=some (some (Sl.fz (.adr p)))) (hl:qs.length=xss.length):Wk K (pre++tlG (gh .ow p (qs.map .adr) qs xss++(nn m++T))) (pre.set i (some (.fz (.lst (xss.map .lst))))++tlG (nn (qs.length + 1 + m)++T)):=by
 rw[← s_ (p:=p) (ds:=qs.map .adr) hp hi hl]
 exact Ao (qv.of hp hi hn hl)
end
end L3
namespace L3
open PySem L2 PySem.Spec PyProof.Rows
section
variable {c:D→Sl} {p q:Addr} {ds:List D} {qs:List Addr} {xs ys:List D} {xss:List (List D)} {T T' T0 A Z pre Γ:G} {L g n m y:Nat} {K:PySem.W.Frag}
theorem o9 {N:List Str} (h:pre.length=N.length) (hm:Z.length≤m):cI (N++phs m) (pre++Z)=pre++tlG (Z++(nn (m - Z.length)++tlE)):=by
 unfold cI phs nn tlG tlE
 rw[List.length_append,List.length_append,List.length_map,List.length_range,h,List.append_nil,show N.length + m - (N.length + Z.length)=m - Z.length by omega,List.append_assoc]
theorem pQ {a b:Nat}:nn (a + b)++T=nn a++(nn b++T):=ou.symm
theorem ee {d:D} {j:Nat} (h:pre.length=L) (hA:A.length=g) (hj:Hld T j d):Hld (pre++tlG (A++T)) (L + (g + j)) d:=by
 refine lC h ?_
 unfold Hld at *
 rw[bV hA];exact hj
theorem xn (h:pre.length=L) (hA:A.length=g) (hq:qs[y]?=some q) (hx:xss[y]?=some xs):(pre++tlG (A++(gh c p ds qs xss++T)))[L + (g + (1 + y))]?=some (some (c (.cel q xs))):=by
 unfold tlG
 rw[bV h,bV hA]
 exact nH hq hx
theorem m9 {j:Nat} (hA:A.length=g):iT (A++T) (g + j) ys=A++iT T j ys:=by
 unfold iT
 rw[bV hA]
 split
 ·rw[fK hA]
 ·rw[fK hA]
 ·rfl
section
variable {QB:Bo→G→Prop} {t:Tag QB}
theorem nR (h:Γ=pre++tlG T0) (hT:T0=A++(gh c p ds qs xss++T)) (hp:pre.length=L) (hA:A.length=g) (hc:c=Sl.ow∨c=Sl.ln) (hQ:QB (.v (L + (g + 0))) Γ):uz p Γ QB t:=by
 subst h;subst hT
 exact oY _ (ee hp hA (gK hc)) hQ
theorem nS (h:Γ=pre++tlG T0) (hT:T0=A++(gh c p ds qs xss++T)) (hp:pre.length=L) (hA:A.length=g) (hc:c=Sl.ow∨c=Sl.ln) (hq:qs[y]?=some q) (hx:xss[y]?=some xs) (hQ:QB (.v (L + (g + (1 + y)))) Γ):uz q Γ QB t:=by
 subst h;subst hT
 exact oY _ (ee hp hA (mh hc hq hx)) hQ
end
theorem rC (h:Γ=pre++tlG T0) (hT:T0=A++(gh c p ds qs xss++T)) (hp:pre.length=L) (hA:A.length=g) (hc:c=Sl.ow∨c=Sl.ln) (hq:qs[y]?=some q) (hx:xss[y]?=some xs):wo (L + (g + (1 + y))) Γ:=by
 subst h;subst hT
 exact⟨q,xs,ee hp hA (mh hc hq hx)⟩
theorem rB (h:Γ=pre++tlG T0) (hT:T0=A++(gh c p ds qs xss++T)) (hp:pre.length=L) (hA:A.length=g) (hc:c=Sl.ow∨c=Sl.ln):wo (L + (g + 0)) Γ:=by
 subst h;subst hT
 exact⟨p,ds,ee hp hA (gK hc)⟩
theorem uy {Q:RV→G→Prop} {t:Tag Q} {d:D} (h:Γ=pre++tlG T0) (hT:T0=A++(gh c p ds qs xss++T)) (hp:pre.length=L) (hA:A.length=g) (hc:c=Sl.ow∨c=Sl.ln) (hq:qs[y]?=some q) (hx:xss[y]?=some xs) (hl:xs.length < sizeLine) (hQ:Q (.fz .non) (pre++tlG (A++(gh c p ds qs (xss.set y (xs++[d]))++T)))):Cs (L + (g + (1 + y))) Γ d Q t:=by
 subst h;subst hT
 refine⟨q,xs,ee hp hA (mh hc hq hx),hl,?_⟩
 rw[lQ hp,m9 hA,sC hc hq (List.getElem?_eq_some_iff.mp hx).1]
 exact hQ
theorem ux {Q:RV→G→Prop} {t:Tag Q} {d:D} (h:Γ=pre++tlG T0) (hT:T0=A++(gh c p ds qs xss++T)) (hp:pre.length=L) (hA:A.length=g) (hc:c=Sl.ow∨c=Sl.ln) (hl:ds.length < sizeLine) (hQ:Q (.fz .non) (pre++tlG (A++(gh c p (ds++[d]) qs xss++T)))):Cs (L + (g + 0)) Γ d Q t:=by
 subst h;subst hT
 refine⟨p,ds,ee hp hA (gK hc),hl,?_⟩
 rw[lQ hp,m9 hA,vj hc]
 exact hQ
theorem vi {Γ1:G} {u3:TS3} {E1:E3} {t:Tag (u3,E1)} {i:Nat} (h:Γ1=pre++tlG T0) (hT:T0=A++(nn m++T)) (hp:pre.length=L) (hA:A.length=g) (hi:i < L) (hf:bc pre i) (hm:xss.length + 1≤m) (hq:∀ p qs,qs.length=xss.length→u3 E1 (pre.set i (some (.fz (.adr p)))++tlG (A++(gh .ow p (qs.map .adr) qs xss++(nn (m - (qs.length + 1))++T))))):AS (L + g) i xss Γ1 u3 E1 t:=by
 subst h;subst hT
 refine⟨?_,pR hp hA hm,fun p qs hl=>?_⟩
 ·unfold bc at hf ⊢
  rw[List.getElem?_append_left (by rw[hp];exact hi)]
  exact hf
 ·rw[List.set_append_left _ _ (by rw[hp];exact hi),m5 (by rw[List.length_set];exact hp) hA hl (by rw[hl];exact hm)]
  exact hq p qs hl
def hX (L:Nat) (A T:G) (m:Nat) (p:Addr) (qs:List Addr) (Jv:Nat→G→List (List D)→Prop) (k:Nat) (Γ:G) (_:Tag Jv):Prop:=∃ pre X,pre.length=L∧X.length=qs.length∧Jv k pre X∧Γ=pre++tlG (A++(gh .ow p (qs.map .adr) qs X++(nn (m - (qs.length + 1))++T)))
theorem v3 {Γ1:G} {b3:TS3} {E1:E3} {t:Tag (b3,E1)} {i:Nat} (h:Γ1=pre++tlG T0) (hT:T0=A++(nn m++T)) (hp:pre.length=L) (hA:A.length=g) (hi:i < L) (hm:xss.length + 1≤m) (Jv:Nat→G→List (List D)→Prop) (h0:Jv 0 pre xss)
  (hs:∀ p qs k q pre' X,qs.length=xss.length→qs[k]?=some q→pre'.length=L→X.length=qs.length→Jv k pre' X→bc pre' i∧b3 { E1 with nx:=fun Γ=>hX L A T m p qs Jv (k + 1) Γ ⟨⟩,ct:=fun Γ=>hX L A T m p qs Jv (k + 1) Γ ⟨⟩,bk:=fun _=>False } (pre'.set i (some (.fz (.adr q)))++tlG (A++(gh .ow p (qs.map .adr) qs X++(nn (m - (qs.length + 1))++T)))))
  (he:∀ pre' X,pre'.length=L→Jv xss.length pre' X→E1.nx (pre'++tlG (A++(nn m++T)))):zG (L + g) i xss Γ1 b3 E1 t:=by
 subst h;subst hT
 have top:∀ {pre':G} {X:List (List D)} {p:Addr} {qs:List Addr} {Y:G},pre'.length=L→(pre'++tlG (A++(gh .ow p (qs.map .adr) qs X++Y)))[L + g]?=some (some (Sl.ow (.cel p (qs.map .adr)))):=fun {pre' X p qs Y} hp'=>by
  unfold tlG
  rw[bV hp']
  have:=bV (pre:=A) (T:=gh .ow p (qs.map .adr) qs X++Y) (j:=0) hA
  rw[Nat.add_zero] at this
  rw[this];rfl
 refine⟨pR hp hA hm,fun p qs hl=>⟨fun k Γ=>hX L A T m p qs Jv k Γ ⟨⟩,⟨pre,xss,hp,hl.symm,h0,m5 hp hA hl (by rw[hl];exact hm)⟩,fun k q Γ hq ⟨pre',X,l1,l2,j,e⟩=>?_,fun Γ ⟨pre',X,l1,l2,j,e⟩=>?_⟩⟩
 ·subst e
  obtain⟨hf,hb⟩:=hs p qs k q pre' X hl hq l1 l2 j
  refine⟨top l1,?_,?_⟩
  ·unfold bc at hf ⊢
   rw[List.getElem?_append_left (by rw[l1];exact hi)]
   exact hf
  ·rw[List.set_append_left _ _ (by rw[l1];exact hi)]
   exact hb
 ·subst e
  refine⟨top l1,fun k d hk1 hk2=>?_,?_⟩
  ·have e1:(pre'++tlG (A++(gh .ow p (qs.map .adr) qs X++(nn (m - (qs.length + 1))++T))))[k]?=(gh .ow p (qs.map .adr) qs X)[k - (L + g)]?:=by
    unfold tlG
    rw[show k=L + (g + (k - (L + g))) by omega,bV l1,bV hA,show L + (g + (k - (L + g))) - (L + g)=k - (L + g) by omega,List.getElem?_append_left (by rw[dX l2.symm];omega)]
   rw[e1]
   exact yK _ d
  ·have e2:cM (pre'++tlG (A++(gh .ow p (qs.map .adr) qs X++(nn (m - (qs.length + 1))++T)))) (L + g) (qs.length + 1)=pre'++tlG (A++(nn m++T)):=by
    unfold tlG
    rw[j8 l1]
    subst hA
    rw[lK (dX l2.symm),ou,show qs.length + 1 + (m - (qs.length + 1))=m by omega]
   rw[e2]
   exact he pre' X l1 (by rw[← hl];exact j)
theorem uv {d d':D} (hp:pre.length + 1=L) (hA:A.length=g) (hq:qs[y]?=some q) (hx:y < xss.length):aT [some 0,some (L + (g + (1 + y)))] (some (Sl.ln d)::(pre++tlG (A++(gh .ow p ds qs xss++T)))) [some (Sl.ln d'),some (Sl.ln (.cel q ys))]=some (Sl.ln d')::(pre++tlG (A++(gh .ow p ds qs (xss.set y ys)++T))):=by
 have hp':(some (Sl.ln d)::pre).length=L:=by rw[List.length_cons];exact hp
 have at1:=xn (c:=Sl.ow) (p:=p) (ds:=ds) (T:=T) hp' hA hq (List.getElem?_eq_getElem hx)
 have eqv:some (Sl.ln d')::(pre++tlG (A++(gh .ow p ds qs (xss.set y ys)++T)))=((some (Sl.ln d)::(pre++tlG (A++(gh .ow p ds qs xss++T)))).set (L + (g + (1 + y))) (some (Sl.ow (.cel q ys)))).set 0 (some (Sl.ln d')):=by
  have e1:(some (Sl.ln d)::(pre++tlG (A++(gh .ow p ds qs xss++T)))).set (L + (g + (1 + y))) (some (Sl.ow (.cel q ys)))=some (Sl.ln d)::(pre++tlG (A++(gh .ow p ds qs (xss.set y ys)++T))):=by
   show ((some (Sl.ln d)::pre)++tlG _).set _ _=(some (Sl.ln d)::pre)++tlG _
   unfold tlG
   rw[fK hp',fK hA,wy hq hx]
  rw[e1];rfl
 rw[eqv]
 apply List.ext_getElem?
 intro i
 rw[bM]
 have il:L + (g + (1 + y)) < (some (Sl.ln d)::(pre++tlG (A++(gh .ow p ds qs xss++T)))).length:=(List.getElem?_eq_some_iff.mp at1).1
 by_cases z:i=0
 ·subst z
  rw[au (by rw[List.length_set];omega)]
  rfl
 ·rw[aw (Ne.symm z)]
  by_cases w:i=L + (g + (1 + y))
  ·subst w
   rw[au il]
   rw[show (some (Sl.ln d)::(pre++tlG (A++(gh .ow p ds qs xss++T))))[L + (g + (1 + y))]?=some (some (Sl.ow (.cel q xss[y]))) from at1]
   show some (fM (newD [some 0,some (L + (g + (1 + y)))] [some (Sl.ln d'),some (Sl.ln (.cel q ys))] (L + (g + (1 + y)))) (some (Sl.ow (.cel q xss[y]))))=_
   unfold newD
   rw[if_neg (Ne.symm z)]
   unfold newD
   rw[if_pos rfl]
   rfl
  ·rw[aw (Ne.symm w),ox fun a ha=>?_]
   ·cases (some (Sl.ln d)::(pre++tlG (A++(gh .ow p ds qs xss++T))))[i]? with
    | none=>rfl
    | some s=>simp [mv]
   ·match a,ha with
    | 0,ha=>simp at ha;exact z ha.symm
    | 1,ha=>simp at ha;exact w ha.symm
    | a + 2,ha=>simp at ha
end
end L3
namespace L3
open PySem L2 PySem.Spec PyProof.Rows
section
variable {c:D→Sl} {p q:Addr} {ds:List D} {qs:List Addr} {xs ys:List D} {xss:List (List D)} {T T' T0 A Z pre Γ:G} {L L0 g n m y:Nat} {K:PySem.W.Frag}
theorem rF (hl:qs.length=xss.length) {k:Nat} (hk:k < qs.length + 1):∃ d,∀ c:D→Sl,(gh c p ds qs xss)[k]?=some (some (c d)):=by
 cases k with
 | zero=>exact⟨.cel p ds,fun c=>rfl⟩
 | succ y=>
  have h1:y < qs.length:=by omega
  have h2:y < xss.length:=by omega
  refine⟨.cel qs[y] xss[y],fun c=>?_⟩
  have:=nH (c:=c) (p:=p) (ds:=ds) (T:=[]) (List.getElem?_eq_getElem h1) (List.getElem?_eq_getElem h2)
  rw[List.append_nil,Nat.add_comm] at this
  exact this
theorem yJ (hl:qs.length=xss.length) {k:Nat} (hk:qs.length + 1≤k):(gh c p ds qs xss)[k]?=none:=List.getElem?_eq_none (by rw[dX hl];exact hk)
theorem mx:∀ {bs:List Bo},(∀ i,i∈cn bs→i < pre.length)→cC (pre++T) (bs.map some)=cC pre (bs.map some)
 | [],_=>rfl
 | .d x::bs,h=>by
  have:=mx (bs:=bs) fun i hi=>h i hi
  unfold cC at this ⊢
  rw[List.map_cons,List.map_cons,List.map_cons,this];rfl
 | .v i::bs,h=>by
  have:=mx (bs:=bs) fun j hj=>h j (.tail _ hj)
  unfold cC at this ⊢
  rw[List.map_cons,List.map_cons,List.map_cons,this]
  congr 1
  show ej (pre++T)[i]?=ej pre[i]?
  rw[List.getElem?_append_left (h i (.head _))]
theorem zg (hp:pre.length=L0) (hl:qs.length=xss.length):cC (pre++tlG (gh .ow p ds qs xss++T)) (((List.range (qs.length + 1)).map fun k=>L0 + k).map fun g=>some (Bo.v g))=gh .ln p ds qs xss:=by
 apply List.ext_getElem?
 intro k
 unfold cC tlG
 rw[List.map_map,List.map_map,List.getElem?_map]
 by_cases hk:k < qs.length + 1
 ·rw[List.getElem?_range hk]
  obtain⟨d,hd⟩:=rF (p:=p) (ds:=ds) hl hk
  rw[hd .ln]
  show some (ej (pre++(gh .ow p ds qs xss++T))[L0 + k]?)=_
  rw[bV hp,List.getElem?_append_left (by rw[dX hl];exact hk),hd .ow]
  rfl
 ·rw[List.getElem?_eq_none (by rw[List.length_range];omega),yJ hl (by omega)];rfl
theorem wK (hp:pre.length=L0) (hl:qs.length=xss.length):jT (pre++tlG (gh .ow p ds qs xss++T)) ((List.range (qs.length + 1)).map fun k=>L0 + k)=pre++tlG (nn (qs.length + 1)++T):=by
 apply List.ext_getElem?
 intro i
 unfold jT tlG
 rw[List.getElem?_mapIdx]
 have mem:i∈((List.range (qs.length + 1)).map fun k=>L0 + k)↔L0≤i∧i < L0 + (qs.length + 1):=by
  rw[List.mem_map]
  constructor
  ·rintro⟨k,hk,rfl⟩
   rw[List.mem_range] at hk
   omega
  ·rintro⟨h1,h2⟩
   exact⟨i - L0,List.mem_range.mpr (by omega),by omega⟩
 by_cases h1:i < L0
 ·rw[List.getElem?_append_left (by omega),List.getElem?_append_left (by omega)]
  cases pre[i]? with
  | none=>rfl
  | some s=>simp only[Option.map_some];rw[if_neg (by rw[mem];omega)]
 ·obtain⟨k,rfl⟩:∃ k,i=L0 + k:=⟨i - L0,by omega⟩
  rw[bV hp,bV hp]
  by_cases h2:k < qs.length + 1
  ·obtain⟨d,hd⟩:=rF (p:=p) (ds:=ds) hl h2
   rw[List.getElem?_append_left (by rw[dX hl];exact h2),hd .ow,vP h2]
   simp only[Option.map_some]
   rw[if_pos (by rw[mem];omega)]
  ·have e1:(gh Sl.ow p ds qs xss++T)[k]?=T[k - (qs.length + 1)]?:=by rw[List.getElem?_append_right (by rw[dX hl];omega),dX hl]
   have e2:(nn (qs.length + 1)++T)[k]?=T[k - (qs.length + 1)]?:=by unfold nn;rw[List.getElem?_append_right (by rw[List.length_replicate];omega),List.length_replicate]
   rw[e1,e2]
   cases T[k - (qs.length + 1)]? with
   | none=>rfl
   | some s=>simp only[Option.map_some];rw[if_neg (by rw[mem];omega)]
theorem w4 {S:S3} {Q:RV→G→Prop} {t:Tag (S,Q)} {bs:List Bo} (h:Γ=pre++tlG (gh .ow p ds qs xss++T)) (hp:pre.length=L0) (hl:qs.length=xss.length) (hlb:∀ i,i∈cn bs→i < L0) (hnd:(cn bs).Nodup)
  (hS:S (cC pre (bs.map some)++(List.replicate (L - n) none++gh .ln p ds qs xss)) fun r Γa=>Q r (aT ((bs.map some).map aS) (pre++tlG (nn (qs.length + 1)++T)) Γa)):w5 n L S bs Γ Q t:=by
 subst h
 refine⟨(List.range (qs.length + 1)).map fun k=>L0 + k,?_,fun g hg=>?_,?_⟩
 ·rw[List.nodup_append]
  refine⟨hnd,?_,fun a ha b hb=>?_⟩
  ·refine List.pairwise_map.mpr (List.nodup_range.imp ?_)
   intro a b h e
   exact h (by omega)
  ·have:=hlb a ha
   obtain⟨k,_,rfl⟩:=List.mem_map.mp hb
   omega
 ·obtain⟨k,hk,rfl⟩:=List.mem_map.mp hg
  rw[List.mem_range] at hk
  obtain⟨d,hd⟩:=rF (p:=p) (ds:=ds) hl hk
  refine⟨d,?_⟩
  unfold tlG
  rw[bV hp,List.getElem?_append_left (by rw[dX hl];exact hk),hd .ow]
 ·rw[wK hp hl]
  have e:cC (pre++tlG (gh .ow p ds qs xss++T)) (bs.map some++List.replicate (L - n) none++((List.range (qs.length + 1)).map fun k=>L0 + k).map fun g=>some (Bo.v g))=cC pre (bs.map some)++(List.replicate (L - n) none++gh .ln p ds qs xss):=by
   have e1:=mx (pre:=pre) (T:=tlG (gh .ow p ds qs xss++T)) (bs:=bs) (by rw[hp];exact hlb)
   have e2:=zg (p:=p) (ds:=ds) (T:=T) hp hl
   rw[← e1,← e2]
   unfold cC
   rw[List.map_append,List.map_append,List.append_assoc,List.map_replicate]
   rfl
  rw[e]
  exact hS
theorem vO (hp:pre.length=L0) (hl:qs.length=xss.length) (h:∀ (k:Nat) (d:D),Hld pre k d→qV d=true):CB (pre++tlG (gh .ow p ds qs xss++(nn m++tlE))) L0 (qs.length + 1):=fun k d hk=>by
 by_cases h1:k < L0
 ·right
  refine h k d ?_
  unfold Hld at hk ⊢
  rw[List.getElem?_append_left (by omega)] at hk
  exact hk
 ·left
  refine⟨by omega,Nat.lt_of_not_le fun le=>?_⟩
  obtain⟨j,rfl⟩:∃ j,k=L0 + j:=⟨k - L0,by omega⟩
  have e:(pre++tlG (gh Sl.ow p ds qs xss++(nn m++tlE)))[L0 + j]?=(nn m++tlE)[j - (qs.length + 1)]?:=by
   unfold tlG
   rw[bV hp,List.getElem?_append_right (by rw[dX hl];omega),dX hl]
  unfold Hld at hk
  rw[e] at hk
  unfold nn tlE at hk
  rw[List.append_nil] at hk
  rcases hk with hk | hk <;> (have:=(List.mem_replicate.mp (List.mem_of_getElem? hk)).2;cases this)
theorem Au {e3:TE3} {Q:RV→G→Prop} {t:Tag (e3,Q)} {i:Nat} (h:Γ=pre++tlG (gh .ow p (qs.map .adr) qs xss++(nn m++tlE))) (hp:pre.length=L0) (hi:i < L0) (hn:pre[i]?=some (some (Sl.fz (.adr p)))) (hl:qs.length=xss.length) (ho:∀ (k:Nat) (d:D),Hld pre k d→qV d=true)
  (q:e3 (pre.set i (some (.fz (.lst (xss.map .lst))))++tlG (nn (qs.length + 1 + m)++tlE)) fun r Γ2=>Γ2=pre.set i (some (.fz (.lst (xss.map .lst))))++tlG (nn (qs.length + 1 + m)++tlE)∧yp r=true∧Q r Γ):tfH i L0 e3 Γ Q t:=by
 subst h
 refine CL (qv.of hp hi hn hl) (vO hp hl ho) ?_
 rw[s_ hp hi hl]
 exact q
end
end L3
set_option maxHeartbeats 4000000
namespace K02
open PySem L2 L3
def fw (b:Option D):Option Sl:=b.map Sl.ow
theorem Ca {s:Option D} {Γ:G}:bc (fw s::Γ) 0=True:=by cases s <;> rfl
theorem Em {n:Option D}:fM n none=none:=rfl
theorem Gg {n:Option D} {d:D}:fM n (some (.fz d))=some (.fz d):=rfl
theorem Gi {n:Option D} {d:D}:fM n (some (.ow d))=some (.ow (n.getD d)):=rfl
theorem Eo {n:Option D} {d:D}:fM n (some (.ln d))=some (.ln (n.getD d)):=rfl
theorem Gk {n:Option D} {s:Option D}:fM n (fo s)=fo s:=by cases s <;> rfl
theorem Gj {n:Option D} {s:Option D}:fM n (fw s)=fw (s.map fun d=>n.getD d):=by cases s <;> rfl
def mkL(s:String):Lean.MacroM (Array (Lean.TSyntax [`Lean.Parser.Tactic.simpStar,`Lean.Parser.Tactic.simpErase,`Lean.Parser.Tactic.simpLemma])):=do
 let mut xs:=#[]
 for w in s.splitOn " " do
  let n:=(w.dropWhile (·=='↓')).toString.toName
  let i:=match (←Lean.Macro.resolveGlobalName n) with
   |(c,[])::_=>Lean.mkCIdent c
   |_=>Lean.mkIdent n
  let t←if w.startsWith "↓" then `(Lean.Parser.Tactic.simpLemma|↓$i:ident) else `(Lean.Parser.Tactic.simpLemma|$i:ident)
  xs:=xs.push ⟨t.raw⟩
 return xs
local macro_rules | `(tactic| walk_at "n5")=>do `(tactic| try simp -dsimp only [$(←mkL "cI List.length_cons List.length_nil Nat.reduceAdd Nat.reduceSub Nat.zero_add List.replicate List.cons_append List.nil_append List.append_nil ↓DU ↓BZ ↓DT ↓zQ ↓B4 ↓DW ↓Gm ↓Gn ↓Ge ↓Gf Fy ↓BU ↓uP ↓AB kW ↓zU ↓zV ↓y0 ↓yE ↓BY ↓zO ↓FX ↓FW ↓wq ↓zR ↓h_c lI xA ↓DS ↓DZ ↓FU ↓DV Ak Fz zD ↓FV ↓zS ↓zP Gat Bo.at ats RV.d RV.sl zm i2 i2' yW eq3 eqS ↓zM ↓DH sP yx yw yy BD yB mx3 Gs FL Bw Cb Cd B9 B_ Cc sl3 Fl ↓BX ↓BS v8 me qB is3 knD dB dI dL dT ↓DY ext3 uE DA Ew beq_self_eq_true i28 Fj uZ wG List.zip_cons_cons List.lookup_cons List.lookup_nil ↓xF vL mf ↓BA yN ↓yY Ce ↓DP yo ↓AE vK ↓Cn ↓yT FQ FP FO tgP dS Di zB DL Gp C6 xH RV.fz.injEq ↓xE ck putD tgN tgT gives frees iL3 iR1 iR2 iZ3 iE3 lz3 Cv ↓yZ ↓yV ↓wU ↓Cg List.isEmpty_nil List.isEmpty_cons ↓B5 ↓yG Ck Cm ↓DX ↓By cC ko ej cn aS List.map_cons List.map_nil Option.bind_some Option.bind_none List.nodup_nil List.nodup_cons List.getElem?_cons_zero List.getElem?_cons_succ List.getElem?_nil List.set_cons_zero List.set_cons_succ exists_eq_left' exists_eq_left exists_eq' exists_eq exists_and_left exists_and_right Option.some.injEq D.int.injEq D.lst.injEq D.str.injEq D.tup.injEq D.bl.injEq D.ins.injEq D.ty.injEq List.cons.injEq and_true true_and and_false false_and true_or false_or or_false or_true and_assoc List.not_mem_nil not_false_eq_true rT wI Ek yS D_ D8 Ea mm Bool.false_xor Bool.not_true Bool.not_false Bool.true_xor g8 List.mapIdx_cons List.mapIdx_nil y8 uu rS xi yz vZ vY Nat.reduceLT decide_true xf xg xh ite_self newD Option.getD_some Option.getD_none Et Es Er Ep BO BN BM if_pos if_true if_false List.all_cons List.all_nil Option.isNone_none Bool.and_true Bool.true_and decide_eq_true_eq not_true not_false_iff reduceCtorEq eq_self Bool.false_eq_true reduceIte Int.reduceEq Em Gg Gi Eo Gk Gj Ca EX FY CJ frL Dn CI CW AA Az nm3 iT3 Gb Ei Nat.reduceEqDiff ↓Fw ↓Fi ↓DG DK Fh FN FK isN BP ↓uG ↓yX ↓xS ↓fz3 ↓DI CG FJ dvv D.exc.injEq D.adr.injEq EZ E3.yI ↓EU ↓CF F8 ↓Gd qI DB wg dm3 AL As nr3 ↓yU ↓yF ↓BW Cw AJ EV ↓B6 ↓B2 ↓B7 ↓BV ↓FR ↓FT ↓yH ↓B1 frL"),*])
def top (i:Nat):Stmt:=PySem.Challenge.pw_halvedpictures_k02_fields_kept.main.body.getD i (.Pass ⟨0,0,0,0⟩)
abbrev cz:Stmt:=top 9
abbrev b_:Stmt:=top 10
abbrev cN:Stmt:=top 11
abbrev cG:Stmt:=top 12
abbrev aR:Stmt:=top 13
abbrev bW:Stmt:=top 15
abbrev aP:Stmt:=inClass (top 16) 0
abbrev bq:Stmt:=inClass (top 16) 1
abbrev bD:Stmt:=inClass (top 16) 2
abbrev bF:Stmt:=inClass (top 16) 3
abbrev bH:Stmt:=inClass (top 16) 4
abbrev ba:Stmt:=inClass (top 16) 5
abbrev aV:Stmt:=inClass (top 16) 6
abbrev cB:Stmt:=inClass (top 16) 7
abbrev aG:Stmt:=inClass (top 16) 8
abbrev bP:Stmt:=inClass (top 16) 9
abbrev cf:Stmt:=top 18
abbrev cA:Stmt:=top 19
abbrev cb:Stmt:=top 20
abbrev bC:Stmt:=top 21
abbrev bN:Stmt:=top 22
abbrev cc:Stmt:=top 23
abbrev bz:Stmt:=top 24
abbrev bO:Stmt:=top 25
abbrev bE:Stmt:=top 26
abbrev aJ:Stmt:=top 27
abbrev aF:Stmt:=top 28
abbrev bB:Stmt:=top 29
abbrev bp:Stmt:=top 30
abbrev gY:Stmt:=top 31
theorem pb:aL ["thing","low","high"] ["thing","low","high"] (ae cz):=⟨rfl,rfl,rfl,by decide +kernel,rfl,by decide +kernel,by decide +kernel⟩
theorem nZ:aL ["thing"] ["thing"] (ae b_):=⟨rfl,rfl,rfl,by decide +kernel,rfl,by decide +kernel,by decide +kernel⟩
theorem tT:aL ["thing","least"] ["thing","least"] (ae cN):=⟨rfl,rfl,rfl,by decide +kernel,rfl,by decide +kernel,by decide +kernel⟩
def kS:Scope:={ kind:=.function,names:=[(".0",.local),("number",.local),("is_number",.globalImplicit)],isGenerator:=false,isCoroutine:=false,more:=[] }
theorem jV:Blk ["thing","least"] (ae cN) kS ["number"] [none]:=⟨rfl,by decide +kernel,by decide +kernel,by decide +kernel,by decide +kernel,rfl,by decide +kernel⟩
theorem qF:aL ["height","width"] ["height","width"] (ae cG):=⟨rfl,rfl,rfl,by decide +kernel,rfl,by decide +kernel,by decide +kernel⟩
theorem jf:aL ["thing","height","width"] ["thing","height","width"] (ae aR):=⟨rfl,rfl,rfl,by decide +kernel,rfl,by decide +kernel,by decide +kernel⟩
theorem ku:aL ["thing","width"] ["thing"] (ae bW):=⟨rfl,rfl,rfl,by decide +kernel,rfl,by decide +kernel,by decide +kernel⟩
def jX:Scope:={ kind:=.function,names:=[(".0",.local),("row",.local),("len",.globalImplicit),("width",.free)],isGenerator:=false,isCoroutine:=false,more:=[] }
theorem iK:Blk ["thing","width"] (ae bW) jX ["row","width"] [none,some 1]:=⟨rfl,by decide +kernel,by decide +kernel,by decide +kernel,by decide +kernel,rfl,by decide +kernel⟩
def jW:Scope:={ kind:=.function,names:=[(".0",.local),("row",.local),("is_row",.globalImplicit)],isGenerator:=false,isCoroutine:=false,more:=[] }
theorem iJ:Blk ["thing","width"] (ae bW) jW ["row"] [none]:=⟨rfl,by decide +kernel,by decide +kernel,by decide +kernel,by decide +kernel,rfl,by decide +kernel⟩
theorem jH:aL ["self","rows"] ["self","rows"] (ae aP):=⟨rfl,rfl,rfl,by decide +kernel,rfl,by decide +kernel,by decide +kernel⟩
def gq:Scope:={ kind:=.function,names:=[(".0",.local),("row",.local),("tuple",.globalImplicit)],isGenerator:=false,isCoroutine:=false,more:=[] }
theorem eO:Blk ["self","rows"] (ae aP) gq ["row"] [none]:=⟨rfl,by decide +kernel,by decide +kernel,by decide +kernel,by decide +kernel,rfl,by decide +kernel⟩
theorem kO:aL ["self"] ["self"] (ae bq):=⟨rfl,rfl,rfl,by decide +kernel,rfl,by decide +kernel,by decide +kernel⟩
theorem lM:aL ["self"] ["self"] (ae bD):=⟨rfl,rfl,rfl,by decide +kernel,rfl,by decide +kernel,by decide +kernel⟩
theorem mM:aL ["self"] ["self"] (ae bF):=⟨rfl,rfl,rfl,by decide +kernel,rfl,by decide +kernel,by decide +kernel⟩
def iY:Scope:={ kind:=.function,names:=[(".0",.local),("row",.local),("list",.globalImplicit)],isGenerator:=false,isCoroutine:=false,more:=[] }
theorem gp:Blk ["self"] (ae bF) iY ["row"] [none]:=⟨rfl,by decide +kernel,by decide +kernel,by decide +kernel,by decide +kernel,rfl,by decide +kernel⟩
theorem mO:aL ["self"] ["self"] (ae bH):=⟨rfl,rfl,rfl,by decide +kernel,rfl,by decide +kernel,by decide +kernel⟩
def iZ:Scope:={ kind:=.function,names:=[(".0",.local),("row",.local),("number",.local)],isGenerator:=false,isCoroutine:=false,more:=[] }
theorem ey:Blk ["self"] (ae bH) iZ ["row","number"] [none,none]:=⟨rfl,by decide +kernel,by decide +kernel,by decide +kernel,by decide +kernel,rfl,by decide +kernel⟩
theorem kN:aL ["self"] ["self"] (ae ba):=⟨rfl,rfl,rfl,by decide +kernel,rfl,by decide +kernel,by decide +kernel⟩
def g9:Scope:={ kind:=.function,names:=[(".0",.local),("y",.local),("x",.local),("range",.globalImplicit),("self",.free)],isGenerator:=false,isCoroutine:=false,more:=[] }
theorem dA:Blk ["self"] (ae ba) g9 ["y","x","self"] [none,none,some 0]:=⟨rfl,by decide +kernel,by decide +kernel,by decide +kernel,by decide +kernel,rfl,by decide +kernel⟩
theorem jG:aL ["self","thing"] ["self","thing"] (ae aV):=⟨rfl,rfl,rfl,by decide +kernel,rfl,by decide +kernel,by decide +kernel⟩
theorem hV:aL ["self","place","y","x"] ["self","place"] (ae cB):=⟨rfl,rfl,rfl,by decide +kernel,rfl,by decide +kernel,by decide +kernel⟩
abbrev cP:List Str:=(["self","place","number","y","x","rows"]:List Str)++phs 65
theorem h_:lT cP (ae aG) 6=true:=by decide +kernel
theorem hE {x0 x1 x2:Option Sl}:cI cP [x0,x1,x2]=x0::x1::x2::none::none::none::tlG (nn 65++tlE):=gy (N:=["self","place","number","y","x","rows"]) (Γa:=[x0,x1,x2]) (by decide:3≤6)
theorem cv:aL cP ["self","place","number"] (ae aG):=⟨rfl,rfl,rfl,by decide +kernel,rfl,by decide +kernel,by decide +kernel⟩
theorem mK:aL ["self","thing"] ["self","thing"] (ae bP):=⟨rfl,rfl,rfl,by decide +kernel,rfl,by decide +kernel,by decide +kernel⟩
theorem n0:aL ["_law_script","_law_k"] ["_law_script","_law_k"] (ae cf):=⟨rfl,rfl,rfl,by decide +kernel,rfl,by decide +kernel,by decide +kernel⟩
theorem pd:aL ["_law_cell_here"] ["_law_cell_here"] (ae cA):=⟨rfl,rfl,rfl,by decide +kernel,rfl,by decide +kernel,by decide +kernel⟩
theorem dG:aL ["_law_box_here","_law_many","_law_digit","_law_far","_law_number_here"] ["_law_box_here","_law_many"] (ae cb):=⟨rfl,rfl,rfl,by decide +kernel,rfl,by decide +kernel,by decide +kernel⟩
theorem fh:aL ["_law_box_here","_law_way","_law_far"] ["_law_box_here"] (ae bC):=⟨rfl,rfl,rfl,by decide +kernel,rfl,by decide +kernel,by decide +kernel⟩
theorem mH:aL ["_law_found"] ["_law_found"] (ae bN):=⟨rfl,rfl,rfl,by decide +kernel,rfl,by decide +kernel,by decide +kernel⟩
theorem gz:aL ["_law_box_here","_law_way","_law_high"] ["_law_box_here"] (ae cc):=⟨rfl,rfl,rfl,by decide +kernel,rfl,by decide +kernel,by decide +kernel⟩
theorem cU:aL ["_law_box_here","_law_size_here","_law_seed","_law_most","_law_rows_here","_law_y","_law_some"] ["_law_box_here","_law_size_here"] (ae bz):=⟨rfl,rfl,rfl,by decide +kernel,rfl,by decide +kernel,by decide +kernel⟩
def jy:Scope:={ kind:=.function,names:=[(".0",.local),("_law_y",.local),("range",.globalImplicit),("_law_box_here",.free),("_law_size_here",.free)],isGenerator:=false,isCoroutine:=false,more:=[] }
theorem g7:Blk ["_law_box_here","_law_size_here","_law_seed","_law_most","_law_rows_here","_law_y","_law_some"] (ae bz) jy ["_law_y","_law_box_here","_law_size_here"] [none,some 0,some 1]:=⟨rfl,by decide +kernel,by decide +kernel,by decide +kernel,by decide +kernel,rfl,by decide +kernel⟩
def jx:Scope:={ kind:=.function,names:=[(".0",.local),("_law_y",.local),("range",.globalImplicit),("_law_box_here",.cell),("_law_size_here",.cell)],isGenerator:=false,isCoroutine:=false,more:=[] }
def jw:Scope:={ kind:=.function,names:=[(".0",.local),("_law_x",.local),("_law_number",.globalImplicit),("_law_box_here",.free)],isGenerator:=false,isCoroutine:=false,more:=[] }
theorem g6:Blk ["_law_y","_law_box_here","_law_size_here"] (jx) jw ["_law_x","_law_box_here"] [none,some 1]:=⟨rfl,by decide +kernel,by decide +kernel,by decide +kernel,by decide +kernel,rfl,by decide +kernel⟩
def jv:Scope:={ kind:=.function,names:=[(".0",.local),("_law_number_here",.local),("_law_most",.free)],isGenerator:=false,isCoroutine:=false,more:=[] }
theorem g5:Blk ["_law_box_here","_law_size_here","_law_seed","_law_most","_law_rows_here","_law_y","_law_some"] (ae bz) jv ["_law_number_here","_law_most"] [none,some 3]:=⟨rfl,by decide +kernel,by decide +kernel,by decide +kernel,by decide +kernel,rfl,by decide +kernel⟩
def ju:Scope:={ kind:=.function,names:=[(".0",.local),("_law_x",.local),("_law_seed",.free),("_law_y",.free)],isGenerator:=false,isCoroutine:=false,more:=[] }
theorem g4:Blk ["_law_box_here","_law_size_here","_law_seed","_law_most","_law_rows_here","_law_y","_law_some"] (ae bz) ju ["_law_x","_law_seed","_law_y"] [none,some 2,some 5]:=⟨rfl,by decide +kernel,by decide +kernel,by decide +kernel,by decide +kernel,rfl,by decide +kernel⟩
theorem mJ:aL ["_law_found","_law_due"] ["_law_found","_law_due"] (ae bO):=⟨rfl,rfl,rfl,by decide +kernel,rfl,by decide +kernel,by decide +kernel⟩
theorem b9:aL ["_law_field","_law_rows_here","_law_size_here","_law_flat","_law_row","_law_places","_law_place","_law_number_here"] ["_law_field","_law_rows_here"] (ae bE):=⟨rfl,rfl,rfl,by decide +kernel,rfl,by decide +kernel,by decide +kernel⟩
def iX:Scope:={ kind:=.function,names:=[(".0",.local),("_law_k",.local),("divmod",.globalImplicit),("_law_size_here",.free)],isGenerator:=false,isCoroutine:=false,more:=[] }
theorem gm:Blk ["_law_field","_law_rows_here","_law_size_here","_law_flat","_law_row","_law_places","_law_place","_law_number_here"] (ae bE) iX ["_law_k","_law_size_here"] [none,some 2]:=⟨rfl,by decide +kernel,by decide +kernel,by decide +kernel,by decide +kernel,rfl,by decide +kernel⟩
theorem aK:aL ["_law_field","_law_size_here","_law_last","_law_some","_law_thing","_law_due","_law_found"] ["_law_field","_law_size_here"] (ae aJ):=⟨rfl,rfl,rfl,by decide +kernel,rfl,by decide +kernel,by decide +kernel⟩
abbrev bY:List Str:=(["_law_box_here","_law_field","_law_rows_here","_law_place","_law_number_here","_law_other","_law_due","_law_one","_law_another","_law_found","_law_thing","_law_line"]:List Str)++phs 65
theorem iU:lT bY (ae aF) 12=true:=by decide +kernel
theorem iS {x0 x1 x2:Option Sl}:cI bY [x0,x1,x2]=x0::x1::x2::none::none::none::none::none::none::none::none::none::tlG (nn 65++tlE):=gy (N:=["_law_box_here","_law_field","_law_rows_here","_law_place","_law_number_here","_law_other","_law_due","_law_one","_law_another","_law_found","_law_thing","_law_line"]) (Γa:=[x0,x1,x2]) (by decide:3≤12)
theorem aI:aL bY ["_law_box_here","_law_field","_law_rows_here"] (ae aF):=⟨rfl,rfl,rfl,by decide +kernel,rfl,by decide +kernel,by decide +kernel⟩
def fH:Scope:={ kind:=.function,names:=[(".0",.local),("_law_row",.local),("list",.globalImplicit)],isGenerator:=false,isCoroutine:=false,more:=[] }
theorem d9:Blk bY (ae aF) fH ["_law_row"] [none]:=⟨rfl,by decide +kernel,by decide +kernel,by decide +kernel,by decide +kernel,rfl,by decide +kernel⟩
def fG:Scope:={ kind:=.function,names:=[(".0",.local),("_law_row",.local),("list",.globalImplicit)],isGenerator:=false,isCoroutine:=false,more:=[] }
theorem bZ:Blk bY (ae aF) fG ["_law_row"] [none]:=⟨rfl,by decide +kernel,by decide +kernel,by decide +kernel,by decide +kernel,rfl,by decide +kernel⟩
theorem hU:aL ["_law_box_here","_law_some","_law_manner"] ["_law_box_here","_law_some"] (ae bB):=⟨rfl,rfl,rfl,by decide +kernel,rfl,by decide +kernel,by decide +kernel⟩
abbrev fk:List Str:=(["_law_box_here","_law_field","_law_handed","_law_told","_law_rows_here","_law_row","_law_owned","_law_shown","_law_turn"]:List Str)++phs 195
theorem fi:lT fk (ae bp) 9=true:=by decide +kernel
theorem uQ {x0 x1 x2:Option Sl}:cI fk [x0,x1,x2]=x0::x1::x2::none::none::none::none::none::none::tlG (nn 195++tlE):=gy (N:=["_law_box_here","_law_field","_law_handed","_law_told","_law_rows_here","_law_row","_law_owned","_law_shown","_law_turn"]) (Γa:=[x0,x1,x2]) (by decide:3≤9)
theorem bQ:aL fk ["_law_box_here","_law_field","_law_handed"] (ae bp):=⟨rfl,rfl,rfl,by decide +kernel,rfl,by decide +kernel,by decide +kernel⟩
abbrev ot:List Str:=(["_law_script","_law_k","_law_box_here","_law_size_here","_law_rows_here","_law_handed","_law_field","_law_second","_law_line","_law_twin"]:List Str)++phs 65
theorem A5:lT ot (ae gY) 10=true:=by decide +kernel
theorem AD {x0:Option Sl}:cI ot [x0]=x0::none::none::none::none::none::none::none::none::none::tlG (nn 65++tlE):=gy (N:=["_law_script","_law_k","_law_box_here","_law_size_here","_law_rows_here","_law_handed","_law_field","_law_second","_law_line","_law_twin"]) (Γa:=[x0]) (by decide:1≤10)
theorem fO:aL ot ["_law_script"] (ae gY):=⟨rfl,rfl,rfl,by decide +kernel,rfl,by decide +kernel,by decide +kernel⟩
def oW:Scope:={ kind:=.function,names:=[(".0",.local),("_law_row",.local),("list",.globalImplicit)],isGenerator:=false,isCoroutine:=false,more:=[] }
theorem iQ:Blk ot (ae gY) oW ["_law_row"] [none]:=⟨rfl,by decide +kernel,by decide +kernel,by decide +kernel,by decide +kernel,rfl,by decide +kernel⟩
set_option genInjectivity false in
set_option genSizeOf false in
structure Ad where
 az:Addr
 jq:Addr
 iw:FuncData
 iA:Addr
 gL:FuncData
 ml:Addr
 kf:FuncData
 kg:Addr
 jo:FuncData
 d8:Addr
 du:FuncData
 jr:Addr
 ix:FuncData
 eu:Addr
 d7:FuncData
 fA:Addr
 eT:FuncData
 gc:Addr
 fx:FuncData
 gU:Addr
 fX:FuncData
 gW:Addr
 fY:FuncData
 fy:Addr
 eS:FuncData
 et:Addr
 dZ:FuncData
 jt:Addr
 iz:FuncData
 da:Addr
 cR:FuncData
 gT:Addr
 fW:FuncData
 iE:Addr
 gP:FuncData
 js:Addr
 iy:FuncData
 iB:Addr
 gM:FuncData
 gb:Addr
 fv:FuncData
 gQ:Addr
 fS:FuncData
 iC:Addr
 gN:FuncData
 iD:Addr
 gO:FuncData
 gS:Addr
 fV:FuncData
 gR:Addr
 fU:FuncData
 c_:Addr
 cQ:FuncData
 dv:Addr
 cZ:FuncData
 fZ:Addr
 ft:FuncData
 f_:Addr
 fu:FuncData
 tm:Addr
 oG:FuncData
structure Txt (K:PySem.W.Frag) (mg:Str→Option Value) (a:Ad):Prop where
 ax:Cls K a.az
 eN:mg "Field"=some (.ref a.az)
 cH:eg K a.az "grid"
 eA:Fun K "is_whole" "is_whole" cz a.jq a.iw
 fB:Binds K a.iw ["thing","low","high"] []
 fm:mg "is_whole"=some (.ref a.jq)
 iM:Fun K "is_number" "is_number" b_ a.iA a.gL
 kE:Binds K a.gL ["thing"] []
 kz:mg "is_number"=some (.ref a.iA)
 qw:Fun K "is_row" "is_row" cN a.ml a.kf
 xj:Binds K a.kf ["thing","least"] []
 vV:mg "is_row"=some (.ref a.ml)
 nT:Fun K "is_size" "is_size" cG a.kg a.jo
 uw:Binds K a.jo ["height","width"] []
 uc:mg "is_size"=some (.ref a.kg)
 fN:Fun K "is_place_within" "is_place_within" aR a.d8 a.du
 jY:Binds K a.du ["thing","height","width"] []
 jQ:mg "is_place_within"=some (.ref a.d8)
 mz:Fun K "are_rows" "are_rows" bW a.jr a.ix
 rV:Binds K a.ix ["thing"] []
 q8:mg "are_rows"=some (.ref a.jr)
 kr:Fun K "__init__" "Field.__init__" aP a.eu a.d7
 cm:Binds K a.d7 ["self","rows"] []
 mE:Fun K "height" "Field.height" bq a.fA a.eT
 ed:Binds K a.eT ["self"] []
 mW:Fun K "width" "Field.width" bD a.gc a.fx
 eI:Binds K a.fx ["self"] []
 o6:Fun K "rows" "Field.rows" bF a.gU a.fX
 br:Binds K a.fX ["self"] []
 o7:Fun K "flat" "Field.flat" bH a.gW a.fY
 e7:Binds K a.fY ["self"] []
 mD:Fun K "places" "Field.places" ba a.fy a.eS
 fE:Binds K a.eS ["self"] []
 kq:Fun K "is_place" "Field.is_place" aV a.et a.dZ
 ez:Binds K a.dZ ["self","thing"] []
 r8:Fun K "at" "Field.at" cB a.jt a.iz
 rX:Binds K a.iz ["self","place"] []
 i_:Fun K "with_number" "Field.with_number" aG a.da a.cR
 eU:Binds K a.cR ["self","place","number"] []
 o5:Fun K "same" "Field.same" bP a.gT a.fW
 ec:Binds K a.fW ["self","thing"] []
 kK:Fun K "_law_cell" "_law_cell" cf a.iE a.gP
 ql:Binds K a.gP ["_law_script","_law_k"] []
 pY:mg "_law_cell"=some (.ref a.iE)
 mB:Fun K "_law_box" "_law_box" cA a.js a.iy
 rW:Binds K a.iy ["_law_cell_here"] []
 q9:mg "_law_box"=some (.ref a.js)
 aM:Fun K "_law_take" "_law_take" cb a.iB a.gM
 aO:Binds K a.gM ["_law_box_here","_law_many"] []
 aN:mg "_law_take"=some (.ref a.iB)
 gf:Fun K "_law_number" "_law_number" bC a.gb a.fv
 jc:Binds K a.fv ["_law_box_here"] []
 ja:mg "_law_number"=some (.ref a.gb)
 eh:Fun K "_law_whole" "_law_whole" bN a.gQ a.fS
 eZ:Binds K a.fS ["_law_found"] []
 eX:mg "_law_whole"=some (.ref a.gQ)
 kI:Fun K "_law_size" "_law_size" cc a.iC a.gN
 qj:Binds K a.gN ["_law_box_here"] []
 pW:mg "_law_size"=some (.ref a.iC)
 kJ:Fun K "_law_rows" "_law_rows" bz a.iD a.gO
 qk:Binds K a.gO ["_law_box_here","_law_size_here"] []
 pX:mg "_law_rows"=some (.ref a.iD)
 e_:Fun K "_law_alike" "_law_alike" bO a.gS a.fV
 gX:Binds K a.fV ["_law_found","_law_due"] []
 gI:mg "_law_alike"=some (.ref a.gS)
 cX:Fun K "_law_tells" "_law_tells" bE a.gR a.fU
 d_:Binds K a.fU ["_law_field","_law_rows_here"] []
 dU:mg "_law_tells"=some (.ref a.gR)
 eV:Fun K "_law_places_right" "_law_places_right" aJ a.c_ a.cQ
 i4:Binds K a.cQ ["_law_field","_law_size_here"] []
 iW:mg "_law_places_right"=some (.ref a.c_)
 fF:Fun K "_law_other_right" "_law_other_right" aF a.dv a.cZ
 jz:Binds K a.cZ ["_law_box_here","_law_field","_law_rows_here"] []
 jk:mg "_law_other_right"=some (.ref a.dv)
 dm:Fun K "_law_turned" "_law_turned" bB a.fZ a.ft
 eH:Binds K a.ft ["_law_box_here","_law_some"] []
 eF:mg "_law_turned"=some (.ref a.fZ)
 jd:Fun K "_law_shaken" "_law_shaken" bp a.f_ a.fu
 mU:Binds K a.fu ["_law_box_here","_law_field","_law_handed"] []
 mP:mg "_law_shaken"=some (.ref a.f_)
 EH:Fun K "law" "law" gY a.tm a.oG
 G6:Binds K a.oG ["_law_script"] []
 GZ:mg "law"=some (.ref a.tm)
 mk_Field:Mk K a.az a.eu
 dq:Meth K a.az "height" a.fA
 dQ:Meth K a.az "width" a.gc
 bg:Meth K a.az "rows" a.gU
 eE:Meth K a.az "flat" a.gW
 eR:Meth K a.az "places" a.fy
 dR:Meth K a.az "is_place" a.et
 pU:Meth K a.az "at" a.jt
 eM:Meth K a.az "with_number" a.da
 dh:Meth K a.az "same" a.gT
 jb:∃ t,mg "MOST_NUMBER"=some (.int 999999999999999 t)
 mT:∃ t,mg "MOST_PLACES"=some (.int 512 t)
 iH:∃ t,mg "MOST_SIDE"=some (.int 64 t)
 p3:Am K a.az
 z_all:mg "all"=none
 z_bool:mg "bool"=none
 z_divmod:mg "divmod"=none
 z_int:mg "int"=none
 z_isinstance:mg "isinstance"=none
 z_len:mg "len"=none
 z_list:mg "list"=none
 z_max:mg "max"=none
 z_min:mg "min"=none
 z_range:mg "range"=none
 z_repr:mg "repr"=none
 z_tuple:mg "tuple"=none
 z_zip:mg "zip"=none
 ty:e9 K
abbrev il (ns:List Int):D:=.lst (ns.map .int)
def Fig (ns:List Int):Prop:=∀ n∈ns,-1000000000000000 < n∧n < 1000000000000000
theorem snoc {f:Nat→D} {k:Nat} {d:D} (h:d=f k):(List.range k).map f++[d]=(List.range (k + 1)).map f:=by
 rw[List.range_succ,List.map_append,h];rfl
theorem gJ {α:Type} {l:List α} {k:Nat} {a:α} (h:l[k]?=some a):k < l.length:=(List.getElem?_eq_some_iff.mp h).1
theorem dc {α:Type} {f:α→D} {l:List α} {k:Nat} {d:D} (h:(l.map f)[k]?=some d):∃ x,l[k]?=some x∧d=f x:=by
 rw[List.getElem?_map] at h
 cases q:l[k]? with
 | none=>rw[q] at h;cases h
 | some x=>rw[q] at h;cases h;exact⟨x,rfl,rfl⟩
theorem take_snoc {α:Type} {xs:List α} {k:Nat} {x:α} (h:xs[k]?=some x):xs.take (k + 1)=xs.take k++[x]:=by rw[List.take_succ,h];rfl
theorem small {n:Nat} (h:n≤100000):n < sizeLine:=by rw[sizeLine_eq];omega
theorem je {n:Nat} (h:n≤100000):n≤sizeLine:=Nat.le_of_lt (small h)
theorem dH {n k:Nat} {i:Int} {d:D} (h:(rng i n)[k]?=some d):k < n∧d=.int (i + k):=by
 unfold rng at h
 obtain⟨x,hx,rfl⟩:=dc h
 have lt:=gJ hx
 rw[List.length_range] at lt
 rw[List.getElem?_range lt] at hx
 cases hx
 exact⟨lt,rfl⟩
section
variable {P:Program} {w:World} {K:PySem.W.Frag} {mg:Str→Option Value} {base:Heap} {a:Ad}
def whD (d:D) (lo hi:Int):Bool:=match d with
 | .int i=>decide (lo≤i) && decide (i≤hi)
 | _=>false
def xv:S3:=fun Γ Q=>∃ (d:D) (lo hi:Int),Γ=[some (.fz d),some (.fz (.int lo)),some (.fz (.int hi))]∧knD d=true∧Q (.fz (.bl (whD d lo hi))) Γ
theorem eK (T:Txt K mg a):bK P w K mg base CX0 1 a.jq a.iw ["thing","low","high"] (sp3 K 3 xv):=by
 refine ok3 T.eA pb (hbody:=fun cdv A outer s H E hr=>⟨_,_,(ah (bI (P3W.pt (dr (aY (ar (tF T.ty) (by rfl) T.z_isinstance (by decide +kernel) (aa (bv 0) (aa (P3.opd (ig (n:="bool") (by rfl) T.z_bool (by decide +kernel))) ag)))) (cL (aZ (aY (ar (Ah T.ty) (by rfl) T.z_isinstance (by decide +kernel) (aa (bv 0) (aa (P3.opd (ig (n:="int") (by rfl) T.z_int (by decide +kernel))) ag)))))))) (aj (aB cq)) bh)
   (aj (aB (lW kD kD (bv 1) (bv 0) (bv 2))))),fun Γa Q h hl=>?_⟩)
 obtain⟨d,lo,hi,rfl,hk,q⟩:=h
 cases d <;> (try cases hk) <;> walk_at "n5" <;> (try exact q)
 rename_i i
 by_cases h:lo≤i
 ·simp only[jS,h,decide_true]
  simpa only[whD,h,decide_true,Bool.true_and] using q
 ·simp only[jS,h,decide_false]
  simpa only[whD,h,decide_false,Bool.false_and] using q
def vM:S3:=fun Γ Q=>∃ (d:D),Γ=[some (.fz d)]∧knD d=true∧Q (.fz (.bl (whD d (-999999999999999) 999999999999999))) Γ
theorem jP (T:Txt K mg a):bK P w K mg base CX0 2 a.iA a.gL ["thing"] (sp3 K 1 vM):=by
 refine ok3 T.iM nZ (hbody:=fun cdv A outer s H E hr=>⟨_,_,(aj (aB (ay (by rfl) (eK T) (hr.mono (by decide)) (by rfl) T.fm T.eA.kp T.fB (aa (P3.opd (p3v 0)) (aa (P3.opd (jh (P3.opd (iP (i:=999999999999999) (by rfl) T.jb)))) (aa (P3.opd (iP (i:=999999999999999) (by rfl) T.jb)) ag)))))),fun Γa Q h hl=>?_⟩)
 obtain⟨d,rfl,hk,q⟩:=h
 walk_at "n5"
 exact⟨d,_,_,rfl,hk,q⟩
theorem sd {n:Int} (h:-1000000000000000 < n∧n < 1000000000000000):whD (.int n) (-999999999999999) 999999999999999=true:=by
 simp only[whD,Bool.and_eq_true,decide_eq_true_eq];omega
def CZ:S3:=fun Γ Q=>∃ (ns:List Int),Γ=[some (.fz (il ns)),some (.fz (.int 1))]∧Fig ns∧ns.length≤64∧1≤ns.length∧Q (.fz (.bl true)) Γ
theorem GF {n:Nat}:(List.range n).map (fun _=>D.bl true)=((List.range n).map fun _=>true).map D.bl:=by rw[List.map_map];rfl
theorem all_true {n:Nat}:((List.range n).map fun _=>true).all id=true:=by simp
theorem t_ (T:Txt K mg a):bK P w K mg base CX0 3 a.ml a.kf ["thing","least"] (sp3 K 2 CZ):=by
 refine ok3 T.qw tT (hbody:=fun cdv A outer s H E hr=>⟨_,_,(ah (bI (P3W.pt (dr (aZ (aY (ar (w6 T.ty) (by rfl) T.z_isinstance (by decide +kernel) (aa (bv 0) (aa (P3.opd (ig (n:="list") (by rfl) T.z_list (by decide +kernel))) ag))))) (cL (aZ (t9 kD kD (bv 1) (P3.opd (ar (dF (by rfl)) (by rfl) T.z_len (by decide +kernel) (aa (bv 0) ag))) (P3.opd (iP (i:=64) (by rfl) T.iH))))))) (aj (aB cq)) bh)
   (aj (aB (ar (w_ (by rfl) rfl) (by rfl) T.z_all (by decide +kernel) (aa (P3.opd (fL rfl (cD (by rfl) (p3v 0)) jV (fun _ _ _ _ _=>(a_ (i:=0) jV.nd rfl (Or.inl rfl))) (fun _ _ _ _ _=>(ay (by rfl) (jP T) (hr.mono (by decide)) (by rfl) T.kz T.iM.kp T.kE (aa (P3.opd (p3v 0)) ag))))) ag))))),fun Γa Q h hl=>?_⟩)
 obtain⟨ns,rfl,hf,h1,h2,q⟩:=h
 walk_at "n5"
 rw[List.length_map,show jS 1 (ns.length:Int)=true by simp only[jS,decide_eq_true_eq];omega,show jS (ns.length:Int) 64=true by simp only[jS,decide_eq_true_eq];omega]
 walk_at "n5"
 refine⟨small (by rw[List.length_map];omega),cF (fun k ys Γc=>ys=(List.range k).map (fun _=>D.bl true)∧∃ s,Γc=[fo s]) ⟨rfl,none,rfl⟩ ?_ ?_⟩
 ·rintro k d ys Γc hd hk ⟨rfl,s,rfl⟩
  obtain⟨n,hn,rfl⟩:=dc hd
  walk_at "n5"
  refine⟨_,rfl,rfl,?_⟩
  rw[sd (hf n (List.mem_of_getElem? hn))]
  walk_at "n5"
  exact⟨snoc rfl,some _,rfl⟩
 ·rintro ys Γc hk ⟨rfl,s,rfl⟩
  walk_at "n5"
  refine⟨(List.range ns.length).map fun _=>true,by rw[List.length_map,List.map_map];rfl,?_⟩
  rw[all_true];exact q
def rY (h w:Int):Prop:=1≤h∧h≤64∧1≤w∧w≤64∧h * w≤512
def AF:S3:=fun Γ Q=>∃ h w:Int,Γ=[some (.fz (.int h)),some (.fz (.int w))]∧rY h w∧Q (.fz (.bl true)) Γ
theorem qU (T:Txt K mg a):bK P w K mg base CX0 2 a.kg a.jo ["height","width"] (sp3 K 2 AF):=by
 refine ok3 T.nT qF (hbody:=fun cdv A outer s H E hr=>⟨_,_,(ah (bI (P3W.pt (dr (aZ (aY (ay (by rfl) (eK T) (hr.mono (by decide)) (by rfl) T.fm T.eA.kp T.fB (aa (P3.opd (p3v 0)) (aa (P3.opd af) (aa (P3.opd (iP (i:=64) (by rfl) T.iH)) ag)))))) (cL (aZ (aY (ay (by rfl) (eK T) (hr.mono (by decide)) (by rfl) T.fm T.eA.kp T.fB (aa (P3.opd (p3v 1)) (aa (P3.opd af) (aa (P3.opd (iP (i:=64) (by rfl) T.iH)) ag))))))))) (aj (aB cq)) bh)
   (aj (aB (fQ kD (P3.opd (eP (bv 0) (bv 1))) (P3.opd (iP (i:=512) (by rfl) T.mT)) (aW _))))),fun Γa Q h hl=>?_⟩)
 obtain⟨h,w,rfl,⟨a1,a2,a3,a4,a5⟩,q⟩:=h
 walk_at "n5"
 refine⟨_,_,_,rfl,rfl,?_⟩
 rw[show whD (.int h) 1 64=true by simp only[whD,Bool.and_eq_true,decide_eq_true_eq];omega]
 walk_at "n5"
 refine⟨_,_,_,rfl,rfl,?_⟩
 rw[show whD (.int w) 1 64=true by simp only[whD,Bool.and_eq_true,decide_eq_true_eq];omega]
 walk_at "n5"
 refine⟨.inl ⟨by omega,by omega⟩,?_⟩
 rw[show jS (h * w) 512=true by simp only[jS,decide_eq_true_eq];exact a5]
 exact q
structure GR (w:Nat) (R:List (List Int)):Prop where
 h1:1≤R.length
 h2:R.length≤64
 w1:1≤w
 w2:w≤64
 all:R.length * w≤512
 len:∀ r∈R,r.length=w
 fig:∀ r∈R,Fig r
abbrev rD (R:List (List Int)):D:=.lst (R.map il)
abbrev tD (r:List Int):D:=.tup (r.map .int)
abbrev fD (a:Ad) (R:List (List Int)):D:=.ins a.az ["grid"] [.tup (R.map tD)]
def AK:S3:=fun Γ Q=>∃ (w:Nat) (R:List (List Int)),Γ=[some (.fz (rD R))]∧GR w R∧Q (.fz (.bl true)) Γ
theorem GR.at0 {w:Nat} {R:List (List Int)} (g:GR w R):∃ r,R[0]?=some r∧r∈R∧r.length=w:=by
 have h:=g.h1
 exact⟨R[0],List.getElem?_eq_getElem (by omega),List.getElem_mem _,g.len _ (List.getElem_mem _)⟩
theorem pI (T:Txt K mg a):bK P w K mg base CX0 4 a.jr a.ix ["thing"] (sp3 K 1 AK):=by
 refine ok3 T.mz ku (hbody:=fun cdv A outer s H E hr=>⟨_,_,(ah (bI (P3W.pt (dr (aZ (aY (ar (w6 T.ty) (by rfl) T.z_isinstance (by decide +kernel) (aa (bv 0) (aa (P3.opd (ig (n:="list") (by rfl) T.z_list (by decide +kernel))) ag))))) (cL (bj (cE (by rfl) hr) (P3.opd (ar (dF (by rfl)) (by rfl) T.z_len (by decide +kernel) (aa (bv 0) ag))) (P3.opd af) (aW _))))) (aj (aB cq)) bh)
   (ah (bI (aZ (aY (ar (w_ (by rfl) rfl) (by rfl) T.z_all (by decide +kernel) (aa (P3.opd (fL rfl (cD (by rfl) (p3v 0)) iJ (fun _ _ _ _ _=>(a_ (i:=0) iJ.nd rfl (Or.inl rfl))) (fun _ _ _ _ _=>(ay (by rfl) (t_ T) (hr.mono (by decide)) (by rfl) T.vV T.qw.kp T.xj (aa (P3.opd (p3v 0)) (aa (P3.opd af) ag)))))) ag)))) (aj (aB cq)) bh)
   (ah (aU (i:=1) ku.nd rfl (Or.inr rfl) (ar (dF (by rfl)) (by rfl) T.z_len (by decide +kernel) (aa (P3.opd (aX (by rfl) (bv 0) (P3.opd af) (fun _ _=>rfl))) ag)))
   (aj (aB (fj (ay (by rfl) (qU T) (hr.mono (by decide)) (by rfl) T.uc T.nT.kp T.uw (aa (P3.opd (ar (dF (by rfl)) (by rfl) T.z_len (by decide +kernel) (aa (bv 0) ag))) (aa (P3.opd (p3v 1)) ag))) (gH (ar (w_ (by rfl) rfl) (by rfl) T.z_all (by decide +kernel) (aa (P3.opd (fL rfl (cD (by rfl) (p3v 0)) iK (fun _ _ _ _ _=>(a_ (i:=0) iK.nd rfl (Or.inl rfl))) (fun _ _ _ _ _=>(fQ (cE (by rfl) hr) (P3.opd (ar (dF (by rfl)) (by rfl) T.z_len (by decide +kernel) (aa (bv 0) ag))) (bv 1) (aW _))))) ag))))))))),fun Γa Q h hl=>?_⟩)
 obtain⟨w,R,rfl,g,q⟩:=h
 have g1:=g.h1
 have g2:=g.h2
 obtain⟨r0,h0,hm0,hl0⟩:=g.at0
 walk_at "n5"
 rw[List.length_map,show ((R.length:Int) == 0)=false by rw[beq_eq_false_iff_ne];omega]
 walk_at "n5"
 refine⟨small (by rw[List.length_map];omega),cF (fun k ys Γc=>ys=(List.range k).map (fun _=>D.bl true)∧∃ s,Γc=[fo s]) ⟨rfl,none,rfl⟩ ?_ ?_⟩
 ·rintro k d ys Γc hd hk ⟨rfl,s,rfl⟩
  obtain⟨r,hr,rfl⟩:=dc hd
  have hm:=List.mem_of_getElem? hr
  walk_at "n5"
  refine⟨r,rfl,g.fig r hm,by rw[g.len r hm];exact g.w2,by rw[g.len r hm];exact g.w1,?_⟩
  walk_at "n5"
  exact⟨snoc rfl,some _,rfl⟩
 ·rintro ys Γc hk ⟨rfl,s,rfl⟩
  walk_at "n5"
  refine⟨(List.range R.length).map fun _=>true,by rw[List.length_map,List.map_map];rfl,?_⟩
  rw[all_true]
  walk_at "n5"
  refine dj.mpr ⟨il r0,cS (by decide) (by rw[List.getElem?_map,show (Int.toNat 0)=0 from rfl,h0];rfl),?_⟩
  walk_at "n5"
  refine⟨_,_,rfl,⟨by rw[List.length_map];omega,by rw[List.length_map];omega,by rw[List.length_map,hl0];have:=g.w1;omega,by rw[List.length_map,hl0];have:=g.w2;omega,by rw[List.length_map,List.length_map,hl0];have:=g.all;exact_mod_cast this⟩,?_⟩
  walk_at "n5"
  refine⟨small (by rw[List.length_map];omega),cF (fun k ys Γc=>ys=(List.range k).map (fun _=>D.bl true)∧∃ s,Γc=[fo s,some (.fz (.int w))]) ⟨rfl,none,by rw[List.length_map,hl0];rfl⟩ ?_ ?_⟩
  ·rintro k d ys Γc hd hk ⟨rfl,s,rfl⟩
   obtain⟨r,hr,rfl⟩:=dc hd
   have hm:=List.mem_of_getElem? hr
   walk_at "n5"
   rw[List.length_map,g.len r hm]
   walk_at "n5"
   exact⟨snoc rfl,some _,rfl⟩
  ·rintro ys Γc hk ⟨rfl,s,rfl⟩
   walk_at "n5"
   refine⟨(List.range R.length).map fun _=>true,by rw[List.length_map,List.map_map];rfl,?_⟩
   rw[all_true];exact q
def BQ (a:Ad):S3:=fun Γ Q=>∃ (w:Nat) (R:List (List Int)),Γ=[some (.ln (.ins a.az [] [])),some (.fz (rD R))]∧GR w R∧Q (.fz .non) [some (.ln (fD a R)),some (.fz (rD R))]
theorem bU (T:Txt K mg a):bK P w K mg base CX0 5 a.eu a.d7 ["self","rows"] (sp3 K 2 (BQ a)):=by
 refine ok3 T.kr jH (hbody:=fun cdv A outer s H E hr=>⟨_,_,(ah (bI (aZ (aY (ay (by rfl) (pI T) (hr.mono (by decide)) (by rfl) T.q8 T.mz.kp T.rV (aa (P3.opd (p3v 1)) ag)))) (aj jI) bh)
   (aj (xJ (C0:=a.az) 0 (by rfl) T.ax T.cH (bv 0) (dE (tE (by rfl)) (by rfl) T.z_tuple (by decide +kernel) (aa (P3.opd (fL rfl (cD (by rfl) (p3v 1)) eO (fun _ _ _ _ _=>(a_ (i:=0) eO.nd rfl (Or.inl rfl))) (fun _ _ _ _ _=>(dE (tE (by rfl)) (by rfl) T.z_tuple (by decide +kernel) (aa (bv 0) ag))))) ag))))),fun Γa Q h hl=>?_⟩)
 obtain⟨w,R,rfl,g,q⟩:=h
 have g2:=g.h2
 walk_at "n5"
 refine⟨w,R,rfl,g,?_⟩
 walk_at "n5"
 refine⟨small (by rw[List.length_map];omega),cF (fun k ys Γc=>ys=(R.take k).map tD∧∃ s,Γc=[fo s]) ⟨rfl,none,rfl⟩ ?_ ?_⟩
 ·rintro k d ys Γc hd hk ⟨rfl,s,rfl⟩
  obtain⟨r,hr,rfl⟩:=dc hd
  walk_at "n5"
  exact⟨by rw[take_snoc hr,List.map_append];rfl,some _,rfl⟩
 ·rintro ys Γc hk ⟨rfl,s,rfl⟩
  walk_at "n5"
  rw[List.take_of_length_le (by rw[List.length_map];exact Nat.le_refl _)]
  exact q
abbrev iR (R:List (List Int)):List (List D):=R.map fun r=>r.map D.int
def yP (a:Ad):S3:=fun Γ Q=>∃ (w:Nat) (R:List (List Int)),Γ=[some (.fz (fD a R))]∧GR w R∧Q (.rws (iR R)) Γ
theorem bf (T:Txt K mg a):bK P w K mg base CX0 1 a.gU a.fX ["self"] (sp3 K 1 (yP a)):=by
 refine ok3 T.o6 mM (hbody:=fun cdv A outer s H E hr=>⟨_,_,(aj (aB (lV rfl (rA (by rfl) (jM (f:="grid") (by rfl) (bv 0) T.ax T.cH)) gp (fun _ _ _ _ _=>(a_ (i:=0) gp.nd rfl (Or.inl rfl))) (fun _ _ _ _ _=>(dE (km (by rfl)) (by rfl) T.z_list (by decide +kernel) (aa (bv 0) ag)))))),fun Γa Q h hl=>?_⟩)
 obtain⟨w,R,rfl,g,q⟩:=h
 have g2:=g.h2
 walk_at "n5"
 refine⟨small (by rw[List.length_map];omega),kh (fun k ys Γc=>ys=iR (R.take k)∧∃ s,Γc=[fo s]) ⟨rfl,none,rfl⟩ ?_ ?_⟩
 ·rintro k d ys Γc hd hk ⟨rfl,s,rfl⟩
  obtain⟨r,hr,rfl⟩:=dc hd
  walk_at "n5"
  exact⟨by rw[take_snoc hr,show iR (R.take k++[r])=iR (R.take k)++iR [r] from List.map_append];rfl,some _,rfl⟩
 ·rintro ys Γc hk ⟨rfl,s,rfl⟩
  walk_at "n5"
  rw[List.take_of_length_le (by rw[List.length_map];exact Nat.le_refl _)]
  exact q
def uk (a:Ad):S3:=fun Γ Q=>∃ (w:Nat) (R:List (List Int)),Γ=[some (.fz (fD a R))]∧GR w R∧Q (.fz (.int R.length)) Γ
theorem dn (T:Txt K mg a):bK P w K mg base CX0 1 a.fA a.eT ["self"] (sp3 K 1 (uk a)):=by
 refine ok3 T.mE kO (hbody:=fun cdv A outer s H E hr=>⟨_,_,(aj (aB (ar (dF (by rfl)) (by rfl) T.z_len (by decide +kernel) (aa (P3.opd (jM (f:="grid") (by rfl) (bv 0) T.ax T.cH)) ag)))),fun Γa Q h hl=>?_⟩)
 obtain⟨w,R,rfl,g,q⟩:=h
 walk_at "n5"
 rw[List.length_map]
 exact q
def wD (a:Ad):S3:=fun Γ Q=>∃ (w:Nat) (R:List (List Int)),Γ=[some (.fz (fD a R))]∧GR w R∧Q (.fz (.int w)) Γ
theorem dN (T:Txt K mg a):bK P w K mg base CX0 1 a.gc a.fx ["self"] (sp3 K 1 (wD a)):=by
 refine ok3 T.mW lM (hbody:=fun cdv A outer s H E hr=>⟨_,_,(aj (aB (ar (dF (by rfl)) (by rfl) T.z_len (by decide +kernel) (aa (P3.opd (aX (by rfl) (P3.opd (jM (f:="grid") (by rfl) (bv 0) T.ax T.cH)) (P3.opd af) (fun _ _=>rfl))) ag)))),fun Γa Q h hl=>?_⟩)
 obtain⟨w,R,rfl,g,q⟩:=h
 obtain⟨r0,h0,hm0,hl0⟩:=g.at0
 walk_at "n5"
 refine dj.mpr ⟨tD r0,cS (by decide) (by rw[List.getElem?_map,show (Int.toNat 0)=0 from rfl,h0];rfl),?_⟩
 walk_at "n5"
 rw[List.length_map,hl0]
 exact q
theorem kY {i:Int} {n:Nat}:(rng i n).length=n:=by unfold rng;simp
theorem ke {α:Type} {f:Nat→List α} {k:Nat}:((List.range k).map f).flatten++f k=((List.range (k + 1)).map f).flatten:=by
 rw[List.range_succ,List.map_append,List.flatten_append];simp
theorem p8 {α:Type} {f:Nat→List α} {m:Nat} (hf:∀ k,(f k).length=m):∀ n,(((List.range n).map f).flatten).length=n * m
 | 0=>by simp
 | n + 1=>by rw[← ke,List.length_append,p8 hf n,hf,Nat.add_mul,Nat.one_mul]
theorem rH {w:Nat}:∀ {R:List (List Int)},(∀ r∈R,r.length=w)→R.flatten.length=R.length * w
 | [],_=>by simp
 | r::R,h=>by
  rw[List.flatten_cons,List.length_append,rH fun x hx=>h x (.tail _ hx),h r (.head _),List.length_cons,Nat.add_mul,Nat.one_mul,Nat.add_comm]
theorem GR.take {w:Nat} {R:List (List Int)} (g:GR w R) (k:Nat):((R.take k).flatten).length≤512:=by
 rw[rH fun r hr=>g.len r (List.mem_of_mem_take hr)]
 refine Nat.le_trans (Nat.mul_le_mul_right w ?_) g.all
 rw[List.length_take];omega
theorem GR.fll {w:Nat} {R:List (List Int)} (g:GR w R):R.flatten.length=R.length * w:=rH g.len
theorem p7 {R:List (List Int)} {k:Nat} {r:List Int} (h:R[k]?=some r):(R.take (k + 1)).flatten=(R.take k).flatten++r:=by
 rw[take_snoc h,List.flatten_append];simp
def yR (a:Ad):S3:=fun Γ Q=>∃ (w:Nat) (R:List (List Int)),Γ=[some (.fz (fD a R))]∧GR w R∧Q (.fr (il R.flatten)) Γ
theorem eD (T:Txt K mg a):bK P w K mg base CX0 1 a.gW a.fY ["self"] (sp3 K 1 (yR a)):=by
 refine ok3 T.o7 mO (hbody:=fun cdv A outer s H E hr=>⟨_,_,(aj (aB (pE rfl (rA (by rfl) (jM (f:="grid") (by rfl) (bv 0) T.ax T.cH)) ey (fun _ _ _ _ _=>(a_ (i:=0) ey.nd rfl (Or.inl rfl))) (fun _ _ _ _ _=>(rA (by rfl) (p3v 0))) (fun _ _ _ _ _=>(a_ (i:=1) ey.nd rfl (Or.inl rfl))) (fun _ _ _ _ _=>(p3v 1))))),fun Γa Q h hl=>?_⟩)
 obtain⟨w,R,rfl,g,q⟩:=h
 have g2:=g.h2
 walk_at "n5"
 refine nL (fun k ys Γc=>ys=(R.take k).flatten.map .int∧∃ s s',Γc=[fo s,fo s']) ⟨rfl,none,none,rfl⟩ ?_ ?_
 ·rintro k d ys Γc hd ⟨rfl,s,s',rfl⟩
  obtain⟨r,hr,rfl⟩:=dc hd
  have hl':=g.len r (List.mem_of_getElem? hr)
  have w2:=g.w2
  have t1:=g.take k
  walk_at "n5"
  refine⟨fun j ys Γc=>ys=((R.take k).flatten++r.take j).map .int∧j≤r.length∧∃ s',Γc=[some (.fz (tD r)),fo s'],⟨by simp,by omega,s',rfl⟩,?_,?_⟩
  ·rintro j d ys Γc hd ⟨rfl,hj,s',rfl⟩
   obtain⟨n,hn,rfl⟩:=dc hd
   have:=gJ hn
   walk_at "n5"
   refine⟨small (by rw[List.length_map,List.length_append,List.length_take];omega),?_,by omega,some _,rfl⟩
   rw[take_snoc hn,← List.append_assoc,List.map_append (l₁:=_++_)];rfl
  ·rintro ys Γc ⟨rfl,hj,s',rfl⟩
   refine⟨?_,some _,s',rfl⟩
   rw[List.length_map,List.take_length,p7 hr]
 ·rintro ys Γc ⟨rfl,s,s',rfl⟩
  have t1:=g.take R.length
  rw[List.take_length] at t1
  rw[List.take_of_length_le (show R.length≤(R.map tD).length by rw[List.length_map];exact Nat.le_refl _)]
  refine⟨small (by rw[List.length_map];omega),?_⟩
  walk_at "n5"
  exact q
abbrev pD (h w:Int):D:=.tup [.int h,.int w]
def n9 (w:Nat) (y:Nat):List D:=(List.range w).map fun x:Nat=>pD (y:Int) (x:Int)
def pls (h w:Nat):List D:=((List.range h).map (n9 w)).flatten
theorem lR {w y:Nat}:(n9 w y).length=w:=by simp [n9]
theorem jL {h w:Nat}:(pls h w).length=h * w:=p8 (fun _=>lR) h
def uj (a:Ad):S3:=fun Γ Q=>∃ (w:Nat) (R:List (List Int)),Γ=[some (.fz (fD a R))]∧GR w R∧Q (.fr (.lst (pls R.length w))) Γ
theorem eQ (T:Txt K mg a):bK P w K mg base CX0 2 a.fy a.eS ["self"] (sp3 K 1 (uj a)):=by
 refine ok3 T.mD kN (hbody:=fun cdv A outer s H E hr=>⟨_,_,(aj (aB (pE rfl (cV (by rfl) T.z_range (ab (aQ (by rfl) (bv 0) T.ax T.dq (dn T) (hr.mono (by decide)) T.ed) ai)) dA (fun _ _ _ _ _=>(a_ (i:=0) dA.nd rfl (Or.inl rfl))) (fun _ _ _ _ _=>(cV (by rfl) T.z_range (ab (aQ (by rfl) (bv 2) T.ax T.dQ (dN T) (hr.mono (by decide)) T.eI) ai))) (fun _ _ _ _ _=>(a_ (i:=1) dA.nd rfl (Or.inl rfl))) (fun _ _ _ _ _=>(bu (ab (p3v 0) (ab (p3v 1) ai))))))),fun Γa Q h hl=>?_⟩)
 obtain⟨w,R,rfl,g,q⟩:=h
 have g2:=g.h2
 have w2:=g.w2
 walk_at "n5"
 refine⟨by decide +kernel,w,R,rfl,g,?_⟩
 walk_at "n5"
 refine⟨by omega,by omega,nL (fun k ys Γc=>ys=pls k w∧k≤R.length∧∃ s s',Γc=[fo s,fo s',some (.fz (fD a R))]) ⟨rfl,by omega,none,none,rfl⟩ ?_ ?_⟩
 ·rintro k d ys Γc hd ⟨rfl,hk,s,s',rfl⟩
  obtain⟨lt,rfl⟩:=dH hd
  have fb:k * w≤64 * 64:=Nat.mul_le_mul (by omega) (by omega)
  walk_at "n5"
  refine⟨by decide +kernel,w,R,rfl,g,?_⟩
  walk_at "n5"
  refine⟨by omega,by omega,fun j ys Γc=>ys=pls k w++n9 j k∧j≤w∧∃ s',Γc=[some (.fz (.int (0 + (k:Int)))),fo s',some (.fz (fD a R))],⟨by simp [n9],by omega,s',rfl⟩,?_,?_⟩
  ·rintro j d ys Γc hd ⟨rfl,hj,s',rfl⟩
   obtain⟨lt2,rfl⟩:=dH hd
   walk_at "n5"
   refine⟨small (by rw[List.length_append,jL,lR];omega),je (by decide),?_,by omega,some _,rfl⟩
   rw[List.append_assoc];congr 1
   unfold n9;rw[List.range_succ,List.map_append]
   simp
  ·rintro ys Γc ⟨rfl,hj,s',rfl⟩
   refine⟨?_,by omega,some _,s',rfl⟩
   rw[kY];exact ke
 ·rintro ys Γc ⟨rfl,hk,s,s',rfl⟩
  have fb:R.length * w≤64 * 64:=Nat.mul_le_mul (by omega) (by omega)
  rw[kY,Int.toNat_natCast]
  refine⟨small (by rw[jL];omega),?_⟩
  walk_at "n5"
  exact q
def plD (d:D) (h w:Int):Bool:=match d with
 | .tup [x,y]=>whD x 0 (h - 1) && whD y 0 (w - 1)
 | _=>false
def knT (d:D):Prop:=knD d=true∧∀ x y,d=.tup [x,y]→knD x=true∧knD y=true
def uF:S3:=fun Γ Q=>∃ (d:D) (h w:Int),Γ=[some (.fz d),some (.fz (.int h)),some (.fz (.int w))]∧knT d∧Q (.fz (.bl (plD d h w))) Γ
theorem jj (T:Txt K mg a):bK P w K mg base CX0 2 a.d8 a.du ["thing","height","width"] (sp3 K 3 uF):=by
 refine ok3 T.fN jf (hbody:=fun cdv A outer s H E hr=>⟨_,_,(ah (bI (P3W.pt (dr (aZ (aY (ar (Af T.ty) (by rfl) T.z_isinstance (by decide +kernel) (aa (bv 0) (aa (P3.opd (ig (n:="tuple") (by rfl) T.z_tuple (by decide +kernel))) ag))))) (cL (bj (iI (by rfl) hr) (P3.opd (ar (dF (by rfl)) (by rfl) T.z_len (by decide +kernel) (aa (bv 0) ag))) (P3.opd af) (aW _))))) (aj (aB cq)) bh)
   (aj (aB (fj (ay (by rfl) (eK T) (hr.mono (by decide)) (by rfl) T.fm T.eA.kp T.fB (aa (P3.opd (aX (by rfl) (bv 0) (P3.opd af) (fun _ _=>rfl))) (aa (P3.opd af) (aa (P3.opd (ek (bv 1) (P3.opd af))) ag)))) (gH (ay (by rfl) (eK T) (hr.mono (by decide)) (by rfl) T.fm T.eA.kp T.fB (aa (P3.opd (aX (by rfl) (bv 0) (P3.opd af) (fun _ _=>rfl))) (aa (P3.opd af) (aa (P3.opd (ek (bv 2) (P3.opd af))) ag))))))))),fun Γa Q h hl=>?_⟩)
 obtain⟨d,h,w,rfl,⟨hk,hk2⟩,q⟩:=h
 cases d <;> (try cases hk) <;> walk_at "n5" <;> (try exact q)
 rename_i xs
 by_cases h2:xs.length=2
 ·obtain⟨x,y,rfl⟩:∃ x y,xs=[x,y]:=by
   match xs,h2 with
   | [x,y],_=>exact⟨x,y,rfl⟩
  obtain⟨k1,k2⟩:=hk2 x y rfl
  rw[show ((([x,y]:List D).length:Int) == 2)=true from rfl]
  walk_at "n5"
  refine⟨_,_,_,rfl,k1,?_⟩
  have e:plD (.tup [x,y]) h w=(whD x 0 (h - 1) && whD y 0 (w - 1)):=rfl
  rw[e] at q
  cases hx:whD x 0 (h - 1) with
  | false=>
   rw[hx] at q
   walk_at "n5"
   exact q
  | true=>
   rw[hx] at q
   walk_at "n5"
   exact⟨_,_,_,rfl,k2,q⟩
 ·rw[show ((xs.length:Int) == 2)=false by rw[beq_eq_false_iff_ne];omega]
  walk_at "n5"
  have e:plD (.tup xs) h w=false:=by
   unfold plD
   split
   ·rename_i x y z;cases z;exact absurd rfl h2
   ·rfl
  rw[e] at q
  exact q
def Cj (a:Ad):S3:=fun Γ Q=>∃ (w:Nat) (R:List (List Int)) (d:D),Γ=[some (.fz (fD a R)),some (.fz d)]∧GR w R∧knT d∧Q (.fz (.bl (plD d R.length w))) Γ
theorem dO (T:Txt K mg a):bK P w K mg base CX0 3 a.et a.dZ ["self","thing"] (sp3 K 2 (Cj a)):=by
 refine ok3 T.kq jG (hbody:=fun cdv A outer s H E hr=>⟨_,_,(aj (aB (ay (by rfl) (jj T) (hr.mono (by decide)) (by rfl) T.jQ T.fN.kp T.jY (aa (P3.opd (p3v 1)) (aa (P3.opd (aQ (by rfl) (bv 0) T.ax T.dq (dn T) (hr.mono (by decide)) T.ed)) (aa (P3.opd (aQ (by rfl) (bv 0) T.ax T.dQ (dN T) (hr.mono (by decide)) T.eI)) ag)))))),fun Γa Q h hl=>?_⟩)
 obtain⟨w,R,d,rfl,g,hk,q⟩:=h
 walk_at "n5"
 refine⟨by decide +kernel,w,R,rfl,g,?_⟩
 walk_at "n5"
 refine⟨by decide +kernel,w,R,rfl,g,?_⟩
 walk_at "n5"
 exact⟨d,_,_,rfl,hk,q⟩
theorem zC {y x h w:Nat} (hy:y < h) (hx:x < w):plD (pD y x) h w=true:=by
 simp only[plD,whD,Bool.and_eq_true,decide_eq_true_eq];omega
theorem zL {y x:Int}:knT (pD y x):=⟨rfl,fun a b e=>by cases e;exact⟨rfl,rfl⟩⟩
theorem GR.row {w:Nat} {R:List (List Int)} (g:GR w R) {y:Nat} (hy:y < R.length):∃ r,R[y]?=some r∧r.length=w∧Fig r:=
 ⟨R[y],List.getElem?_eq_getElem hy,g.len _ (List.getElem_mem _),g.fig _ (List.getElem_mem _)⟩
def D7 (a:Ad):S3:=fun Γ Q=>∃ (w:Nat) (R:List (List Int)) (y x:Nat) (r:List Int) (n:Int),Γ=[some (.fz (fD a R)),some (.fz (pD y x))]∧GR w R∧R[y]?=some r∧r[x]?=some n∧Q (.fz (.int n)) Γ
theorem pK (T:Txt K mg a):bK P w K mg base CX0 4 a.jt a.iz ["self","place"] (sp3 K 2 (D7 a)):=by
 refine ok3 T.r8 hV (hbody:=fun cdv A outer s H E hr=>⟨_,_,(ah (bI (aZ (aY (dJ (by rfl) (bv 0) T.ax T.dR (dO T) (hr.mono (by decide)) T.ez (aa (P3.opd (p3v 1)) ag)))) (aj jI) bh)
   (ah (su (is:=[2,3]) (by rfl) (p3v 1) (eJ (eB (i:=2) hV.nd rfl (Or.inl rfl)) (eJ (eB (i:=3) hV.nd rfl (Or.inl rfl)) lg)) rfl)
   (aj (aB (aX (by rfl) (P3.opd (aX (by rfl) (P3.opd (jM (f:="grid") (by rfl) (bv 0) T.ax T.cH)) (bv 2) (fun _ _=>rfl))) (bv 3) (fun _ _=>rfl)))))),fun Γa Q h hl=>?_⟩)
 obtain⟨w,R,y,x,r,n,rfl,g,hr',hn,q⟩:=h
 have ly:=gJ hr'
 have lx:=gJ hn
 have lr:=g.len r (List.mem_of_getElem? hr')
 walk_at "n5"
 refine⟨by decide +kernel,w,R,pD y x,rfl,g,zL,?_⟩
 rw[zC ly (by omega)]
 walk_at "n5"
 refine dj.mpr ⟨tD r,cS (by omega) (by rw[List.getElem?_map,Int.toNat_natCast,hr'];rfl),?_⟩
 walk_at "n5"
 refine dj.mpr ⟨.int n,cS (by omega) (by rw[List.getElem?_map,Int.toNat_natCast,hn];rfl),?_⟩
 walk_at "n5"
 exact q
theorem nJ {n:Nat}:∀ (R S:List (List Int)),dz (n + 1) (R.map il) (S.map il)=some (decide (R=S))
 | [],[]=>by simp [dz]
 | r::R,[]=>by simp [dz]
 | [],s::S=>by simp [dz]
 | r::R,s::S=>by
  have e1:eqN (n + 1) (il r) (il s)=some (decide (r=s)):=mm r s
  have e2:=nJ (n:=n) R S
  show (match eqN (n + 1) (il r) (il s),dz (n + 1) (R.map il) (S.map il) with
   | some a,some b=>some (a && b)
   | _,_=>none)=_
  rw[e1,e2]
  show some (decide (r=s) && decide (R=S))=_
  rw[← Bool.decide_and]
  simp
theorem p_ {n:Nat} {R S:List (List Int)}:eqN (n + 2) (rD R) (rD S)=some (decide (R=S)):=by
 show dz (n + 1) _ _=_
 exact nJ R S
def yO (a:Ad):S3:=fun Γ Q=>∃ (w:Nat) (R:List (List Int)) (d:D),Γ=[some (.fz (fD a R)),some (.fz d)]∧GR w R∧((knD d=true∧Q (.fz (.bl false)) Γ)∨∃ v S,d=fD a S∧GR v S∧Q (.fz (.bl (decide (S=R)))) Γ)
theorem df (T:Txt K mg a):bK P w K mg base CX0 2 a.gT a.fW ["self","thing"] (sp3 K 2 (yO a)):=by
 refine ok3 T.o5 mK (hbody:=fun cdv A outer s H E hr=>⟨_,_,(aj (aB (fj (ar (Ag (by rfl) T.p3) (by rfl) T.z_isinstance (by decide +kernel) (aa (bv 1) (aa (P3.opd (sJ (by rfl) T.eN)) ag))) (gH (fQ (cE (by rfl) hr) (P3.opd (aQ (by rfl) (bv 1) T.ax T.bg (bf T) (hr.mono (by decide)) T.br)) (P3.opd (aQ (by rfl) (bv 0) T.ax T.bg (bf T) (hr.mono (by decide)) T.br)) (aW _)))))),fun Γa Q h hl=>?_⟩)
 obtain⟨w,R,d,rfl,g,h⟩:=h
 rcases h with ⟨hk,q⟩ | ⟨v,S,rfl,g',q⟩
 ·walk_at "n5"
  refine⟨false,sM hk,?_⟩
  walk_at "n5"
  exact q
 ·walk_at "n5"
  refine⟨true,pG,?_⟩
  walk_at "n5"
  refine⟨by decide +kernel,v,S,rfl,g',?_⟩
  walk_at "n5"
  refine⟨by decide +kernel,w,R,rfl,g,?_⟩
  walk_at "n5"
  exact⟨_,p_,q⟩
theorem mem_set {α:Type} {l:List α} {k:Nat} {a b:α} (h:b∈l.set k a):b∈l∨b=a:=List.mem_or_eq_of_mem_set h
theorem GR.set {w:Nat} {R:List (List Int)} (g:GR w R) {y x:Nat} {r:List Int} {n:Int} (hr:R[y]?=some r) (hn:-1000000000000000 < n∧n < 1000000000000000):GR w (R.set y (r.set x n)):=by
 have hm:=List.mem_of_getElem? hr
 refine⟨by rw[List.length_set];exact g.h1,by rw[List.length_set];exact g.h2,g.w1,g.w2,by rw[List.length_set];exact g.all,fun s hs=>?_,fun s hs=>?_⟩
 ·rcases mem_set hs with hs | rfl
  ·exact g.len s hs
  ·rw[List.length_set];exact g.len r hm
 ·rcases mem_set hs with hs | rfl
  ·exact g.fig s hs
  ·intro k hk
   rcases mem_set hk with hk | rfl
   ·exact g.fig r hm k hk
   ·exact hn
theorem wj {R:List (List Int)} {y x:Nat} {r:List Int} {n:Int}:(iR R).set y ((r.map D.int).set x (.int n))=iR (R.set y (r.set x n)):=by
 rw[← List.map_set]
 exact(List.map_set ..).symm
theorem rm {n k:Nat} (h:k < n):ixN n (k:Int)=some k:=by
 unfold ixN
 rw[if_pos (by omega),if_pos (by omega),Int.toNat_natCast]
def yM (a:Ad):S3:=fun Γ Q=>∃ (w:Nat) (R:List (List Int)) (y x:Nat) (r:List Int) (n:Int),Γ=[some (.fz (fD a R)),some (.fz (pD y x)),some (.fz (.int n))]∧GR w R∧R[y]?=some r∧x < w∧(-1000000000000000 < n∧n < 1000000000000000)∧Q (.fr (fD a (R.set y (r.set x n)))) Γ
theorem eL (T:Txt K mg a):bK P w K mg base CX0 7 a.da a.cR ["self","place","number"] (sp3 K 3 (yM a)):=by
 refine ok3 T.i_ cv (hbody:=fun cdv A outer s H E hr=>⟨_,_,(ah (bI (aZ (aY (dJ (by rfl) (bv 0) T.ax T.dR (dO T) (hr.mono (by decide)) T.ez (aa (P3.opd (p3v 1)) ag)))) (aj jI) bh)
   (ah (bI (aZ (aY (ay (by rfl) (jP T) (hr.mono (by decide)) (by rfl) T.kz T.iM.kp T.kE (aa (P3.opd (p3v 2)) ag)))) (aj jI) bh)
   (ah (su (is:=[3,4]) (by rfl) (p3v 1) (eJ (eB (i:=3) cv.nd rfl (Or.inl rfl)) (eJ (eB (i:=4) cv.nd rfl (Or.inl rfl)) lg)) rfl)
   (k_ 6 6 5 (by decide) (by decide) (iN rfl h_) (aU (i:=5) cv.nd rfl (Or.inl rfl) (aQ (by rfl) (bv 0) T.ax T.bg (bf T) (hr.mono (by decide)) T.br)) (aQ (by rfl) (bv 0) T.ax T.bg (bf T) (hr.mono (by decide)) T.br)
   (ah (sv (bA (aX (by rfl) (bA (p3v 5)) (bv 3) (fun _ _=>rfl))) (bv 4) (p3v 2))
   (sA (aj (aB (iO T.mk_Field (bU T) (hr.mono (by decide)) (by rfl) T.eN T.cm (ab (p3v 5) ai)))))))))),fun Γa Q h hl=>?_⟩)
 obtain⟨w,R,y,x,r,n,rfl,g,hr',hx,hn,q⟩:=h
 have ly:=gJ hr'
 have lr:=g.len r (List.mem_of_getElem? hr')
 have g2:=g.h2
 rw[hE]
 walk_at "n5"
 refine⟨by decide +kernel,w,R,pD y x,rfl,g,zL,?_⟩
 rw[zC ly hx]
 walk_at "n5"
 refine⟨.int n,rfl,rfl,?_⟩
 rw[sd hn]
 walk_at "n5"
 refine⟨by decide +kernel,w,R,rfl,g,?_⟩
 walk_at "n5"
 refine n8 (pre:=[_,_,_,_,_,_]) (T:=tlE) (m:=65) rfl rfl (by decide) trivial (by rw[List.length_map];omega) fun p qs hl=>?_
 rw[List.length_map] at hl
 obtain⟨q0,hq0⟩:∃ q0,qs[y]?=some q0:=⟨_,List.getElem?_eq_getElem (by rw[hl];exact ly)⟩
 walk_at "n5"
 refine qq (pre:=[_,_,_,_,_,_]) rfl rfl (.inl rfl) ?_
 walk_at "n5"
 refine dj.mpr ⟨.adr q0,cS (by omega) (by rw[List.getElem?_map,Int.toNat_natCast,hq0];rfl),?_⟩
 walk_at "n5"
 have hy0:(iR R)[y]?=some (r.map D.int):=by rw[List.getElem?_map,hr'];rfl
 refine qr (pre:=[_,_,_,_,_,_]) rfl rfl (.inl rfl) hq0 hy0 ?_
 walk_at "n5"
 refine qp (pre:=[_,_,_,_,_,_]) rfl rfl (.inl rfl) hq0 hy0 rfl (rm (by rw[List.length_map,lr];exact hx)) ?_
 rw[wj]
 walk_at "n5"
 refine r_ (wkR (i:=5) (L:=6) (pre:=[_,_,_,_,_,_]) rfl (by decide) rfl (by rw[List.length_map,List.length_set];exact hl)) ?_
 walk_at "n5"
 refine⟨w,R.set y (r.set x n),rfl,g.set hr' hn,?_⟩
 walk_at "n5"
 exact q
def Co:S3:=fun Γ Q=>∃ (ns:List Int) (k:Int),Γ=[some (.fz (.scr ns)),some (.fz (.int k))]∧0≤k∧∀ r,Q (.fz (.int r)) Γ
theorem oq (T:Txt K mg a):bK P w K mg base CX0 1 a.iE a.gP ["_law_script","_law_k"] (sp3 K 2 Co):=by
 refine ok3 T.kK n0 (hbody:=fun cdv A outer s H E hr=>⟨_,_,(ah (bI (bj tG (bv 1) (P3.opd (ar (dF (by rfl)) (by rfl) T.z_len (by decide +kernel) (aa (bv 0) ag))) (aW _)) (aj (aB (aX (by rfl) (bv 0) (bv 1) (fun _ _=>rfl)))) bh)
   (aj (aB (cO (P3.opd (eP (P3.opd af) (bv 1))) (P3.opd af))))),fun Γa Q h hl=>?_⟩)
 obtain⟨ns,k,rfl,hk,q⟩:=h
 walk_at "n5"
 refine gu (fun h=>?_) (fun h=>?_)
 ·walk_at "n5"
  exact⟨_,za hk (of_decide_eq_true h),q _⟩
 ·walk_at "n5"
  exact⟨.inl ⟨by decide,by decide⟩,q _⟩
def Box (c:Int) (d:D):Prop:=∃ x m k:Int,d=.lst [.int x,.int m,.int k]∧0≤x∧0≤m∧m < 2147483647∧0≤k∧k≤c
def Ej:S3:=fun Γ Q=>∃ (x:Int),Γ=[some (.fz (.int x))]∧∀ d,Box 0 d→Q (.fr d) Γ
theorem pJ (T:Txt K mg a):bK P w K mg base CX0 1 a.js a.iy ["_law_cell_here"] (sp3 K 1 Ej):=by
 refine ok3 T.mB pd (hbody:=fun cdv A outer s H E hr=>⟨_,_,(aj (aB (bX (ab (ar (Ae rfl) (by rfl) T.z_max (by decide +kernel) (aa (P3.opd af) (aa (P3.opd (ek (bv 0) (P3.opd (ij (v:=1000000000000000000) (by decide +kernel) ⟨by decide,by decide,by decide⟩)))) ag))) (ab (ji (bv 0) (P3.opd af)) (ab af ai)))))),fun Γa Q h hl=>?_⟩)
 obtain⟨x,rfl,q⟩:=h
 walk_at "n5"
 exact⟨by decide,by rw[sizeLine_eq];omega,q _ ⟨_,_,_,rfl,by unfold fmax;split <;> omega,Int.emod_nonneg _ (by decide),Int.emod_lt_of_pos _ (by decide),by decide,by decide⟩⟩
def Av:S3:=fun Γ Q=>∃ (d:D) (c n:Int),Γ=[some (.ln d),some (.fz (.int n))]∧Box c d∧c≤1000000∧0 < n∧n≤1000000000∧∀ r d',0≤r→r < n→Box (c + 1) d'→Q (.fz (.int r)) [some (.ln d'),some (.fz (.int n))]
theorem aH (T:Txt K mg a):bK P w K mg base CX0 1 a.iB a.gM ["_law_box_here","_law_many"] (sp3 K 2 Av):=by
 refine ok3 T.aM dG (hbody:=fun cdv A outer s H E hr=>⟨_,_,(ah (bI (bj Ai (P3.opd (aX (by rfl) (bv 0) (P3.opd af) (fun _ _=>rfl))) (P3.opd af) (aW _)) (ah (aU (i:=2) dG.nd rfl (Or.inl rfl) (ji (P3.opd (aX (by rfl) (bv 0) (P3.opd af) (fun _ _=>rfl))) (bv 1)))
   (ah (lN 0 (bv 0) (P3.opd af) (lh (P3.opd (aX (by rfl) (bv 0) (P3.opd af) (fun _ _=>rfl))) (bv 1)))
   (aj (aB (Dp 2))))) bh)
   (ah (lN 0 (bv 0) (P3.opd af) (cO (P3.opd (aX (by rfl) (bv 0) (P3.opd af) (fun _ _=>rfl))) (P3.opd af)))
   (ah (aU (i:=3) dG.nd rfl (Or.inl rfl) (cO (P3.opd (cO (P3.opd (eP (P3.opd (aX (by rfl) (bv 0) (P3.opd af) (fun _ _=>rfl))) (P3.opd (cO (P3.opd af) (P3.opd (eP (P3.opd af) (P3.opd (aX (by rfl) (bv 0) (P3.opd af) (fun _ _=>rfl))))))))) (P3.opd (eP (P3.opd af) (P3.opd (aX (by rfl) (bv 0) (P3.opd af) (fun _ _=>rfl))))))) (P3.opd af)))
   (ah (aU (i:=4) dG.nd rfl (Or.inl rfl) (ji (P3.opd (sI (bv 3) (P3.opd af))) (P3.opd af)))
   (ah (aU (i:=4) dG.nd rfl (Or.inl rfl) (ji (P3.opd (eP (P3.opd (cO (bv 4) (P3.opd (eP (P3.opd af) (P3.opd (aX (by rfl) (bv 0) (P3.opd af) (fun _ _=>rfl))))))) (P3.opd (cO (bv 4) (P3.opd af))))) (P3.opd af)))
   (aj (aB (ji (P3.opd (lh (bv 4) (P3.opd af))) (bv 1))))))))),fun Γa Q h hl=>?_⟩)
 obtain⟨_,c,n,rfl,⟨x,m,k,rfl,hx,hm,hm2,hk,hk2⟩,hc,hn,hn2,q⟩:=h
 walk_at "n5"
 refine gu (fun e=>?_) (fun e=>?_)
 ·walk_at "n5"
  exact⟨hn,⟨hn,by omega⟩,q _ _ (Int.emod_nonneg _ (by omega)) (Int.emod_lt_of_pos _ hn) ⟨_,_,_,rfl,Int.ediv_nonneg hx (by omega),hm,hm2,hk,by omega⟩⟩
 ·walk_at "n5"
  have p1:0≤m * (48271 + 2 * (k + 1)):=Int.mul_nonneg hm (by omega)
  have p2:m * (48271 + 2 * (k + 1))≤2147483647 * (48271 + 2 * (k + 1)):=Int.mul_le_mul_of_nonneg_right (by omega) (by omega)
  refine⟨.inl ⟨by decide,by decide⟩,.inl ⟨by omega,by omega⟩,.inl ⟨by decide,by decide⟩,⟨by decide,by decide,?_⟩,?_⟩
  ·show (m * (48271 + 2 * (k + 1)) + 7919 * (k + 1) + 11).natAbs < 2 ^ 64
   omega
  generalize hy:(m * (48271 + 2 * (k + 1)) + 7919 * (k + 1) + 11) ^ Int.toNat 5 % 2147483629=y
  have hy0:0≤y:=by rw[← hy];exact Int.emod_nonneg _ (by decide)
  have hy1:y < 2147483629:=by rw[← hy];exact Int.emod_lt_of_pos _ (by decide)
  exact⟨by decide,.inl ⟨by decide,by decide⟩,.inr ⟨by omega,by omega⟩,by decide,⟨by decide,by decide⟩,hn,q _ _ (Int.emod_nonneg _ (by omega)) (Int.emod_lt_of_pos _ hn) ⟨_,_,_,rfl,hx,hm,hm2,by omega,by omega⟩⟩
theorem pick {p:D→Prop} {xs:List D} {r:Int} {k:D→Prop} {t:Tag k} (h0:0≤r) (h1:r < (xs.length:Int)) (hp:∀ x∈xs,p x) (q:∀ v,p v→k v):m1 (atI xs r) k t:=by
 obtain⟨d,h2,h3⟩:=zc h0 h1
 exact dj.mpr ⟨d,h2,q d (hp d h3)⟩
theorem Box.up {c c':Int} {d:D} (b:Box c d) (h:c≤c'):Box c' d:=by
 obtain⟨x,m,k,e,h1,h2,h3,h4,h5⟩:=b
 exact⟨x,m,k,e,h1,h2,h3,h4,Int.le_trans h5 h⟩
def Br:S3:=fun Γ Q=>∃ (d:D) (c:Int),Γ=[some (.ln d)]∧Box c d∧c≤900000∧∀ r d',-1000000000000000 < r→r < 1000000000000000→Box (c + 4) d'→Q (.fz (.int r)) [some (.ln d')]
theorem ip (T:Txt K mg a):bK P w K mg base CX0 2 a.gb a.fv ["_law_box_here"] (sp3 K 1 Br):=by
 refine ok3 T.gf fh (hbody:=fun cdv A outer s H E hr=>⟨_,_,(ah (aU (i:=1) fh.nd rfl (Or.inl rfl) (ay (by rfl) (aH T) (hr.mono (by decide)) (by rfl) T.aN T.aM.kp T.aO (aa (bv 0) (aa (P3.opd af) ag))))
   (ah (bI (bj (cE (by rfl) hr) (bv 1) (P3.opd af) (aW _)) (aj (aB (ek (P3.opd (ay (by rfl) (aH T) (hr.mono (by decide)) (by rfl) T.aN T.aM.kp T.aO (aa (bv 0) (aa (P3.opd af) ag)))) (P3.opd af)))) bh)
   (ah (bI (bj (cE (by rfl) hr) (bv 1) (P3.opd af) (aW _)) (aj (aB (aX (by rfl) (P3.opd (bX (ab (ek (P3.opd (ij (v:=1000000000000000) (by decide +kernel) ⟨by decide,by decide,by decide⟩)) (P3.opd af)) (ab (ek (P3.opd af) (P3.opd (ij (v:=1000000000000000) (by decide +kernel) ⟨by decide,by decide,by decide⟩))) (ab af (ab (jh (P3.opd af)) ai)))))) (P3.opd (ay (by rfl) (aH T) (hr.mono (by decide)) (by rfl) T.aN T.aM.kp T.aO (aa (bv 0) (aa (P3.opd af) ag)))) (fun _ _=>rfl)))) bh)
   (ah (bI (bj (cE (by rfl) hr) (bv 1) (P3.opd af) (aW _)) (ah (aU (i:=2) fh.nd rfl (Or.inl rfl) (cO (P3.opd (eP (P3.opd (ay (by rfl) (aH T) (hr.mono (by decide)) (by rfl) T.aN T.aM.kp T.aO (aa (bv 0) (aa (P3.opd (ij (v:=100000000) (by decide +kernel) ⟨by decide,by decide,by decide⟩)) ag)))) (P3.opd (ij (v:=10000000) (by decide +kernel) ⟨by decide,by decide,by decide⟩)))) (P3.opd (ay (by rfl) (aH T) (hr.mono (by decide)) (by rfl) T.aN T.aM.kp T.aO (aa (bv 0) (aa (P3.opd (ij (v:=10000000) (by decide +kernel) ⟨by decide,by decide,by decide⟩)) ag))))))
   (aj (aB (aX (by rfl) (P3.opd (bX (ab (p3v 2) (ab (ek (P3.opd af) (bv 2)) ai)))) (P3.opd (ay (by rfl) (aH T) (hr.mono (by decide)) (by rfl) T.aN T.aM.kp T.aO (aa (bv 0) (aa (P3.opd af) ag)))) (fun _ _=>rfl))))) bh)
   (aj (aB (ek (P3.opd (ay (by rfl) (aH T) (hr.mono (by decide)) (by rfl) T.aN T.aM.kp T.aO (aa (bv 0) (aa (P3.opd af) ag)))) (P3.opd af)))))))),fun Γa Q h hl=>?_⟩)
 obtain⟨d,c,rfl,hb,hc,q⟩:=h
 walk_at "n5"
 refine⟨_,_,5,rfl,hb,by omega,by decide,by decide,fun r1 d1 l1 u1 b1=>?_⟩
 walk_at "n5"
 refine gu (fun h=>?_) (fun h0=>?_)
 ·walk_at "n5"
  refine⟨_,_,21,rfl,b1,by omega,by decide,by decide,fun r2 d2 l2 u2 b2=>?_⟩
  walk_at "n5"
  exact q _ _ (by omega) (by omega) (b2.up (by omega))
 walk_at "n5"
 refine gu (fun h=>?_) (fun h1=>?_)
 ·walk_at "n5"
  refine⟨by rw[sizeLine_eq];omega,_,_,4,rfl,b1,by omega,by decide,by decide,fun r2 d2 l2 u2 b2=>?_⟩
  walk_at "n5"
  refine pick (p:=fun v=>∃ i:Int,v=.int i∧-1000000000000000 < i∧i < 1000000000000000) l2 u2 ?_ ?_
  ·intro v hv
   simp only[List.mem_cons,List.not_mem_nil,or_false] at hv
   rcases hv with rfl | rfl | rfl | rfl <;> exact⟨_,rfl,by decide,by decide⟩
  ·rintro _ ⟨i,rfl,h1,h2⟩
   walk_at "n5"
   exact q _ _ h1 h2 (b2.up (by omega))
 walk_at "n5"
 refine gu (fun h=>?_) (fun h2=>?_)
 ·walk_at "n5"
  refine⟨_,_,100000000,rfl,b1,by omega,by decide,by decide,fun r2 d2 l2 u2 b2=>?_⟩
  walk_at "n5"
  refine⟨.inr ⟨by decide,by decide⟩,_,_,10000000,rfl,b2,by omega,by decide,by decide,fun r3 d3 l3 u3 b3=>?_⟩
  walk_at "n5"
  refine⟨by rw[sizeLine_eq];omega,_,_,2,rfl,b3,by omega,by decide,by decide,fun r4 d4 l4 u4 b4=>?_⟩
  walk_at "n5"
  refine pick (p:=fun v=>∃ i:Int,v=.int i∧-1000000000000000 < i∧i < 1000000000000000) l4 u4 ?_ ?_
  ·intro v hv
   simp only[List.mem_cons,List.not_mem_nil,or_false] at hv
   rcases hv with rfl | rfl <;> exact⟨_,rfl,by omega,by omega⟩
  ·rintro _ ⟨i,rfl,h1,h2⟩
   walk_at "n5"
   exact q _ _ h1 h2 (b4.up (by omega))
 walk_at "n5"
 refine⟨_,_,200001,rfl,b1,by omega,by decide,by decide,fun r2 d2 l2 u2 b2=>?_⟩
 walk_at "n5"
 exact q _ _ (by omega) (by omega) (b2.up (by omega))
def xB:S3:=fun Γ Q=>∃ (d:D),Γ=[some (.ln d)]∧Box 0 d∧∀ h w d',rY h w→Box 10 d'→Q (.fz (pD h w)) [some (.ln d')]
theorem z1:1≤sizeLine:=by rw[sizeLine_eq];decide
theorem z2:2≤sizeLine:=by rw[sizeLine_eq];decide
theorem z3:3≤sizeLine:=by rw[sizeLine_eq];decide
theorem z0:0 < sizeLine:=by rw[sizeLine_eq];decide
theorem z4:4≤sizeLine:=by rw[sizeLine_eq];decide
theorem z6:6≤sizeLine:=by rw[sizeLine_eq];decide
theorem six {v:D} (h:v∈[D.tup [.int 64,.int 8],.tup [.int 8,.int 64],.tup [.int 1,.int 64],.tup [.int 64,.int 1],.tup [.int 22,.int 23],.tup [.int 17,.int 30]]):∃ h w,v=pD h w∧rY h w:=by
 simp only[List.mem_cons,List.not_mem_nil,or_false] at h
 rcases h with rfl | rfl | rfl | rfl | rfl | rfl <;> exact⟨_,_,rfl,by decide,by decide,by decide,by decide,by decide⟩
theorem size_of {x y:Int} (h1:0≤x) (h2:x < 64) (h3:0≤y) (h4:y < fmin 64 (512 / (1 + x))):rY (1 + x) (1 + y):=by
 have e:fmin 64 (512 / (1 + x))≤64∧fmin 64 (512 / (1 + x))≤512 / (1 + x):=by unfold fmin;split <;> omega
 have e2:(1 + x) * (1 + y)≤(1 + x) * (512 / (1 + x)):=Int.mul_le_mul_of_nonneg_left (by omega) (by omega)
 have e3:(1 + x) * (512 / (1 + x))≤512:=Int.mul_ediv_self_le (by omega)
 exact⟨by omega,by omega,by omega,by omega,by omega⟩
theorem CV {x y:Int} (h1:0≤x) (h2:x < 9) (h3:0≤y) (h4:y < 9):rY (1 + x) (1 + y):=by
 have e2:(1 + x) * (1 + y)≤9 * 9:=Int.mul_le_mul (by omega) (by omega) (by omega) (by omega)
 exact⟨by omega,by omega,by omega,by omega,by omega⟩
theorem om (T:Txt K mg a):bK P w K mg base CX0 2 a.iC a.gN ["_law_box_here"] (sp3 K 1 xB):=by
 refine ok3 T.kI gz (hbody:=fun cdv A outer s H E hr=>⟨_,_,(ah (aU (i:=1) gz.nd rfl (Or.inl rfl) (ay (by rfl) (aH T) (hr.mono (by decide)) (by rfl) T.aN T.aM.kp T.aO (aa (bv 0) (aa (P3.opd af) ag))))
   (ah (bI (bj tG (bv 1) (P3.opd af) (aW _)) (aj (aB (aX (by rfl) (P3.opd (bX (ab (bu (ab af (ab af ai))) (ab (bu (ab af (ab af ai))) (ab (bu (ab af (ab af ai))) (ab (bu (ab af (ab af ai))) (ab (bu (ab af (ab af ai))) (ab (bu (ab af (ab af ai))) ai)))))))) (bv 1) (fun _ _=>rfl)))) bh)
   (ah (bI (bj (cE (by rfl) hr) (bv 1) (P3.opd af) (aW _)) (ah (aU (i:=2) gz.nd rfl (Or.inl rfl) (cO (P3.opd af) (P3.opd (ay (by rfl) (aH T) (hr.mono (by decide)) (by rfl) T.aN T.aM.kp T.aO (aa (bv 0) (aa (P3.opd af) ag))))))
   (aj (aB (bu (ab (p3v 2) (ab (cO (P3.opd af) (P3.opd (ay (by rfl) (aH T) (hr.mono (by decide)) (by rfl) T.aN T.aM.kp T.aO (aa (bv 0) (aa (P3.opd (ar (Ac rfl) (by rfl) T.z_min (by decide +kernel) (aa (P3.opd af) (aa (P3.opd (lh (P3.opd af) (bv 2))) ag)))) ag))))) ai)))))) bh)
   (aj (aB (bu (ab (cO (P3.opd af) (P3.opd (ay (by rfl) (aH T) (hr.mono (by decide)) (by rfl) T.aN T.aM.kp T.aO (aa (bv 0) (aa (P3.opd af) ag))))) (ab (cO (P3.opd af) (P3.opd (ay (by rfl) (aH T) (hr.mono (by decide)) (by rfl) T.aN T.aM.kp T.aO (aa (bv 0) (aa (P3.opd af) ag))))) ai)))))))),fun Γa Q h hl=>?_⟩)
 obtain⟨d,rfl,hb,q⟩:=h
 walk_at "n5"
 refine⟨_,_,12,rfl,hb,by decide,by decide,by decide,fun r1 d1 l1 u1 b1=>?_⟩
 walk_at "n5"
 refine gu (fun h=>?_) (fun h=>?_)
 ·simp -dsimp -implicitDefEqProofs only[↓zQ,↓uP,↓zV,↓zS,↓wq,↓zP,↓h_c,↓zR,RV.d,List.length_cons,List.length_nil,Nat.zero_add,Nat.reduceAdd,↓zU,Gat,aT,List.map_cons,List.map_nil,aS,newD,cI,Nat.reduceSub,List.replicate,List.cons_append,List.nil_append,List.mapIdx_cons,if_pos,Eo,Option.getD_some,reduceCtorEq,if_false,Em,List.mapIdx_nil,RV.sl,List.set_cons_succ,List.set_cons_zero,List.getElem?_cons_succ,List.getElem?_cons_zero,Option.some.injEq,exists_eq',Bo.at,sP,↓zM,true_and]
  have h':r1 < 6:=of_decide_eq_true h
  refine⟨z2,z2,z2,z2,z2,z2,z6,pick l1 h' (fun v hv=>six hv) (fun v hv=>?_)⟩
  obtain⟨h,w,rfl,sz⟩:=hv
  walk_at "n5"
  exact q _ _ _ sz (b1.up (by decide))
 ·walk_at "n5"
  refine gu (fun h=>?_) (fun h=>?_)
  ·walk_at "n5"
   refine⟨_,_,64,rfl,b1,by decide,by decide,by decide,fun r2 d2 l2 u2 b2=>?_⟩
   walk_at "n5"
   have p:1≤512 / (1 + r2):=Int.le_ediv_of_mul_le (by omega) (by omega)
   refine⟨⟨by omega,by omega⟩,_,_,_,rfl,b2,by decide,by unfold fmin;split <;> omega,by unfold fmin;split <;> omega,fun r3 d3 l3 u3 b3=>?_⟩
   walk_at "n5"
   exact⟨z2,q _ _ _ (size_of l2 u2 l3 u3) (b3.up (by decide))⟩
  ·walk_at "n5"
   refine⟨_,_,9,rfl,b1,by decide,by decide,by decide,fun r2 d2 l2 u2 b2=>?_⟩
   walk_at "n5"
   refine⟨_,_,9,rfl,b2,by decide,by decide,by decide,fun r3 d3 l3 u3 b3=>?_⟩
   walk_at "n5"
   exact⟨z2,q _ _ _ (CV l2 u2 l3 u3) (b3.up (by decide))⟩
def vX:S3:=fun Γ Q=>∃ (d:D),Γ=[some (.fz d)]∧knD d=true∧Q (.fz (.bl (match d with | .int _=>true | _=>false))) Γ
theorem eC (T:Txt K mg a):bK P w K mg base CX0 1 a.gQ a.fS ["_law_found"] (sp3 K 1 vX):=by
 refine ok3 T.eh mH (hbody:=fun cdv A outer s H E hr=>⟨_,_,(aj (aB (fj (ar (Ah T.ty) (by rfl) T.z_isinstance (by decide +kernel) (aa (bv 0) (aa (P3.opd (ig (n:="int") (by rfl) T.z_int (by decide +kernel))) ag))) (gH (Bd (ar (tF T.ty) (by rfl) T.z_isinstance (by decide +kernel) (aa (bv 0) (aa (P3.opd (ig (n:="bool") (by rfl) T.z_bool (by decide +kernel))) ag)))))))),fun Γa Q h hl=>?_⟩)
 obtain⟨d,rfl,hk,q⟩:=h
 cases d <;> (try cases hk) <;> walk_at "n5" <;> (try exact q)
def Made (w k:Nat) (R:List (List Int)):Prop:=R.length=k∧∀ r∈R,r.length=w∧Fig r
theorem Made.snoc {w k:Nat} {R:List (List Int)} {r:List Int} (h:Made w k R) (h1:r.length=w) (h2:Fig r):Made w (k + 1) (R++[r]):=by
 refine⟨by rw[List.length_append,h.1];rfl,fun x hx=>?_⟩
 rcases List.mem_append.mp hx with hx | hx
 ·exact h.2 x hx
 ·rw[List.mem_singleton] at hx;subst hx;exact⟨h1,h2⟩
theorem Made.gr {h w:Int} {R:List (List Int)} (s:rY h w) (m:Made w.toNat h.toNat R):GR w.toNat R:=by
 obtain⟨a1,a2,a3,a4,a5⟩:=s
 refine⟨by rw[m.1];omega,by rw[m.1];omega,by omega,by omega,?_,fun r hr=>(m.2 r hr).1,fun r hr=>(m.2 r hr).2⟩
 rw[m.1]
 have:((h.toNat * w.toNat:Nat):Int)≤512:=by rw[Int.natCast_mul,Int.toNat_of_nonneg (by omega),Int.toNat_of_nonneg (by omega)];exact a5
 exact_mod_cast this
theorem tj {ns:List Int} {n:Int} (h:Fig ns) (h1:-1000000000000000 < n) (h2:n < 1000000000000000):Fig (ns++[n]):=fun x hx=>by
 rcases List.mem_append.mp hx with hx | hx
 ·exact h x hx
 ·rw[List.mem_singleton] at hx;subst hx;exact⟨h1,h2⟩
theorem three {v:D} (h:v∈[D.int 3,.int 200001,.int 100000000]):∃ i:Int,v=.int i∧3≤i∧i≤100000000:=by
 simp only[List.mem_cons,List.not_mem_nil,or_false] at h
 rcases h with rfl | rfl | rfl <;> exact⟨_,rfl,by decide,by decide⟩
def yu:S3:=fun Γ Q=>∃ (d:D) (h w:Int),Γ=[some (.ln d),some (.fz (pD h w))]∧Box 10 d∧rY h w∧∀ R d',GR w.toNat R→R.length=h.toNat→Box 1000 d'→Q (.fr (rD R)) [some (.ln d'),some (.fz (pD h w))]
theorem oo (T:Txt K mg a):bK P w K mg base CX0 3 a.iD a.gO ["_law_box_here","_law_size_here"] (sp3 K 2 yu):=by
 refine ok3 T.kJ cU (hbody:=fun cdv A outer s H E hr=>⟨_,_,(ah (bI (bj Ai (P3.opd (eP (P3.opd (aX (by rfl) (bv 1) (P3.opd af) (fun _ _=>rfl))) (P3.opd (aX (by rfl) (bv 1) (P3.opd af) (fun _ _=>rfl))))) (P3.opd af) (aW _)) (ah (aU (i:=2) cU.nd rfl (Or.inr rfl) (ay (by rfl) (aH T) (hr.mono (by decide)) (by rfl) T.aN T.aM.kp T.aO (aa (bv 0) (aa (P3.opd (ij (v:=100000000) (by decide +kernel) ⟨by decide,by decide,by decide⟩)) ag))))
   (ah (aU (i:=3) cU.nd rfl (Or.inr rfl) (aX (by rfl) (P3.opd (bX (ab af (ab af (ab (ij (v:=100000000) (by decide +kernel) ⟨by decide,by decide,by decide⟩) ai))))) (P3.opd (ay (by rfl) (aH T) (hr.mono (by decide)) (by rfl) T.aN T.aM.kp T.aO (aa (bv 0) (aa (P3.opd af) ag)))) (fun _ _=>rfl)))
   (ah (aU (i:=4) cU.nd rfl (Or.inl rfl) (bX ai))
   (ah (fP PassesOwn.never rfl (cV (by rfl) T.z_range (ab (aX (by rfl) (bv 1) (P3.opd af) (fun _ _=>rfl)) ai)) (a_ (i:=5) cU.nd rfl (Or.inr rfl))
   (ah (gC (i:=6) cU.nd rfl rfl rfl (cV (by rfl) T.z_range (ab (aX (by rfl) (bv 1) (P3.opd af) (fun _ _=>rfl)) ai)) g4 (fun _ _ _ _ _=>(a_ (i:=0) g4.nd rfl (Or.inl rfl))) (fun _ _ _ _ _=>(ji (P3.opd (sI (P3.opd (cO (bv 1) (P3.opd (eP (P3.opd af) (P3.opd (cO (P3.opd (eP (P3.opd af) (bv 2))) (bv 0))))))) (P3.opd af))) (P3.opd af))))
   (aj (cK (nq 4 (by rfl) (bv 4) (fL rfl (cD (by rfl) (p3v 6)) g5 (fun _ _ _ _ _=>(a_ (i:=0) g5.nd rfl (Or.inl rfl))) (fun _ _ _ _ _=>(ek (P3.opd (ji (bv 0) (bv 1))) (P3.opd (lh (bv 1) (P3.opd af)))))))))))
   (aj (aB (Dp 4))))))) bh)
   (aj (aB (fL rfl (cV (by rfl) T.z_range (ab (aX (by rfl) (bv 1) (P3.opd af) (fun _ _=>rfl)) ai)) g7 (fun _ _ _ _ _=>(a_ (i:=0) g7.nd rfl (Or.inl rfl))) (fun _ _ _ _ _=>(fL rfl (cV (by rfl) T.z_range (ab (aX (by rfl) (bv 2) (P3.opd af) (fun _ _=>rfl)) ai)) g6 (fun _ _ _ _ _=>(a_ (i:=0) g6.nd rfl (Or.inl rfl))) (fun _ _ _ _ _=>(ay (by rfl) (ip T) (hr.mono (by decide)) (by rfl) T.ja T.gf.kp T.jc (aa (bv 1) ag))))))))),fun Γa Q h hl=>?_⟩)
 obtain⟨d,h,w,rfl,hb,sz,q⟩:=h
 obtain⟨a1,a2,a3,a4,a5⟩:=id sz
 walk_at "n5"
 refine⟨.inl ⟨by omega,by omega⟩,gu (fun big=>?_) (fun big=>?_)⟩
 ·walk_at "n5"
  refine⟨_,_,100000000,rfl,hb,by decide,by decide,by decide,fun r1 d1 l1 u1 b1=>?_⟩
  walk_at "n5"
  refine⟨je (by decide),_,_,3,rfl,b1,by decide,by decide,by decide,fun r2 d2 l2 u2 b2=>?_⟩
  walk_at "n5"
  refine pick (p:=fun v=>∃ i:Int,v=.int i∧3≤i∧i≤100000000) l2 u2 (fun _=>three) ?_
  rintro _ ⟨mo,rfl,m1,m2⟩
  walk_at "n5"
  refine⟨Nat.zero_le _,by omega,by omega,dk (fun k Γ=>∃ R s s',Made w.toNat k R∧Γ=[some (.ln d2),some (.fz (pD h w)),some (.fz (.int r1)),some (.fz (.int mo)),some (.ow (.lst (R.map il))),fo s,fo s']) ⟨[],none,none,⟨rfl,fun _ h=>nomatch h⟩,rfl⟩ ?_ ?_⟩
  ·rintro k x Γ hd ⟨R,s,s',m,rfl⟩
   obtain⟨lk,rfl⟩:=dH hd
   walk_at "n5"
   refine⟨by omega,by omega,small (by rw[show (rng 0 w.toNat).length=w.toNat by unfold rng;simp];omega),cF (fun j ys Γc=>∃ ns:List Int,ys=ns.map .int∧ns.length=j∧(∀ n∈ns,0≤n∧n < 2147483629)∧∃ s,Γc=[fo s,some (.fz (.int r1)),some (.fz (.int (0 + k)))]) ⟨[],rfl,rfl,(fun _ h=>nomatch h),none,rfl⟩ ?_ ?_⟩
   ·rintro j y ys Γc hd2 hj ⟨ns,rfl,hl',hb',s,rfl⟩
    obtain⟨lj,rfl⟩:=dH hd2
    walk_at "n5"
    refine⟨.inl ⟨by decide,by decide⟩,.inl ⟨by decide,by decide⟩,⟨by decide,by decide,?_⟩,by decide,ns++[_],by rw[List.map_append];rfl,by simp [hl'],fun n hn=>?_,some _,rfl⟩
    ·show (r1 + 7919 * (64 * (0 + (k:Int)) + (0 + (j:Int)))).natAbs < 2 ^ 64
     omega
    ·rcases List.mem_append.mp hn with hn | hn
     ·exact hb' n hn
     ·rw[List.mem_singleton] at hn
      subst hn
      exact⟨Int.emod_nonneg _ (by decide),Int.emod_lt_of_pos _ (by decide)⟩
   ·rintro ys Γc hj ⟨ns,rfl,hl',hb',s,rfl⟩
    walk_at "n5"
    have nl:ns.length=w.toNat:=by rw[hl'];unfold rng;simp
    refine⟨small (by rw[List.length_map];omega),cF (fun j ys Γc=>∃ r:List Int,ys=r.map .int∧r.length=j∧Fig r∧∃ s,Γc=[fo s,some (.fz (.int mo))]) ⟨[],rfl,rfl,(fun _ h=>nomatch h),none,rfl⟩ ?_ ?_⟩
    ·rintro j y ys Γc hd2 hj ⟨r,rfl,hl2,hf,s,rfl⟩
     obtain⟨n,hn,rfl⟩:=dc hd2
     have hn':=hb' n (List.mem_of_getElem? hn)
     walk_at "n5"
     refine⟨by omega,⟨by decide,by decide⟩,r++[_],by rw[List.map_append];rfl,by simp [hl2],tj hf ?_ ?_,some _,rfl⟩
     ·have:=Int.emod_nonneg n (show mo≠0 by omega);omega
     ·have:=Int.emod_lt_of_pos n (show 0 < mo by omega);omega
    ·rintro ys Γc hj ⟨r,rfl,hl2,hf,s,rfl⟩
     walk_at "n5"
     rw[List.length_map] at hl2
     refine⟨small (by rw[List.length_map,m.1];omega),R++[r],some _,some _,m.snoc (by omega) hf,by rw[List.map_append];rfl⟩
  ·rintro Γ ⟨R,s,s',m,rfl⟩
   walk_at "n5"
   rw[show (rng 0 h.toNat).length=h.toNat by unfold rng;simp] at m
   exact q R _ (m.gr sz) m.1 (b2.up (by decide))
 ·walk_at "n5"
  have small81:(h.toNat * w.toNat:Nat)≤81:=by
   have e:¬ 81 < h * w:=of_decide_eq_false big
   have:((h.toNat * w.toNat:Nat):Int)≤81:=by rw[Int.natCast_mul,Int.toNat_of_nonneg (by omega),Int.toNat_of_nonneg (by omega)];omega
   exact_mod_cast this
  refine⟨by omega,by omega,small (by rw[show (rng 0 h.toNat).length=h.toNat by unfold rng;simp];omega),cF (fun k ys Γc=>∃ R d',Made w.toNat k R∧ys=R.map il∧Box (10 + 4 * ((k * w.toNat:Nat):Int)) d'∧∃ s,Γc=[fo s,some (.ln d'),some (.fz (pD h w))]) ⟨[],d,⟨rfl,fun _ h=>nomatch h⟩,rfl,hb.up (by omega),none,rfl⟩ ?_ ?_⟩
  ·rintro k x ys Γc hd hk ⟨R,d',m,rfl,bd,s,rfl⟩
   obtain⟨lk,rfl⟩:=dH hd
   have kw:k * w.toNat≤64 * 64:=Nat.mul_le_mul (by omega) (by omega)
   walk_at "n5"
   refine⟨by omega,by omega,small (by rw[show (rng 0 w.toNat).length=w.toNat by unfold rng;simp];omega),cF (fun j ys Γc=>∃ (r:List Int) (d':D),ys=r.map .int∧r.length=j∧Fig r∧Box (10 + 4 * ((k * w.toNat + j:Nat):Int)) d'∧∃ s,Γc=[fo s,some (.ln d')]) ⟨[],d',rfl,rfl,(fun _ h=>nomatch h),bd.up (by omega),none,rfl⟩ ?_ ?_⟩
   ·rintro j y ys Γc hd2 hj ⟨r,d3,rfl,hl2,hf,b3,s,rfl⟩
    obtain⟨lj,rfl⟩:=dH hd2
    walk_at "n5"
    refine⟨_,_,rfl,b3,by omega,fun r6 d6 l6 u6 b6=>?_⟩
    walk_at "n5"
    exact⟨r++[r6],_,by rw[List.map_append];rfl,by simp [hl2],tj hf l6 u6,b6.up (by omega),some _,rfl⟩
   ·rintro ys Γc hj ⟨r,d3,rfl,hl2,hf,b3,s,rfl⟩
    walk_at "n5"
    rw[show (rng 0 w.toNat).length=w.toNat by unfold rng;simp] at hl2 b3
    exact⟨R++[r],_,m.snoc hl2 hf,by rw[List.map_append];rfl,b3.up (by rw[Nat.add_mul,Nat.one_mul];omega),some _,rfl⟩
  ·rintro ys Γc hk ⟨R,d',m,rfl,bd,s,rfl⟩
   walk_at "n5"
   rw[show (rng 0 h.toNat).length=h.toNat by unfold rng;simp] at m bd
   exact q R _ (m.gr sz) m.1 (bd.up (by omega))
def zj:S3:=fun Γ Q=>∃ (xs:List D),Γ=[some (.fz (.lst xs)),some (.fz (.lst xs))]∧Sh 10000000 20 (.lst xs)∧Q (.fz (.bl true)) Γ
theorem fR (T:Txt K mg a):bK P w K mg base CX0 1 a.gS a.fV ["_law_found","_law_due"] (sp3 K 2 zj):=by
 refine ok3 T.e_ mJ (hbody:=fun cdv A outer s H E hr=>⟨_,_,(aj (aB (fj (ar (w6 T.ty) (by rfl) T.z_isinstance (by decide +kernel) (aa (bv 0) (aa (P3.opd (ig (n:="list") (by rfl) T.z_list (by decide +kernel))) ag))) (gH (fQ (cE (by rfl) hr) (P3.opd (ar (eY (by rfl) hr) (by rfl) T.z_repr (by decide +kernel) (aa (bv 0) ag))) (P3.opd (ar (eY (by rfl) hr) (by rfl) T.z_repr (by decide +kernel) (aa (bv 1) ag))) (aW _)))))),fun Γa Q h hl=>?_⟩)
 obtain⟨xs,rfl,sh,q⟩:=h
 walk_at "n5"
 have ok:okR (.lst xs):=.inl ⟨.inl rfl,sh⟩
 exact⟨ok,ok,q⟩
theorem xC {r:List Int} (h:Fig r) (hl:r.length≤512):Sh (512 * 102 + 3) 2 (il r):=.lst (fun x hx=>by
 obtain⟨n,hn,rfl⟩:=List.mem_map.mp hx
 have:=h n hn
 exact .int (by omega)) (by rw[List.length_map];exact hl)
theorem AG {r:List Int} (h:Fig r) (hl:r.length≤64):Sh (64 * 102 + 3) 2 (il r):=.lst (fun x hx=>by
 obtain⟨n,hn,rfl⟩:=List.mem_map.mp hx
 have:=h n hn
 exact .int (by omega)) (by rw[List.length_map];exact hl)
theorem kX {w:Nat} {R:List (List Int)} (g:GR w R):Sh 500000 3 (rD R):=.up (.lst (n:=64 * 102 + 3) (k:=2) (l:=64) (fun x hx=>by
 obtain⟨r,hr,rfl⟩:=List.mem_map.mp hx
 exact AG (g.fig r hr) (by rw[g.len r hr];exact g.w2)) (by rw[List.length_map];exact g.h2)) (by decide) (by decide)
theorem p9 {w:Nat} {R:List (List Int)} (g:GR w R):Fig R.flatten:=fun n hn=>by
 obtain⟨r,hr,hn⟩:=List.mem_flatten.mp hn
 exact g.fig r hr n hn
theorem so {w:Nat} {R:List (List Int)} (g:GR w R):Sh 500000 3 (il R.flatten):=.up (xC (p9 g) (by rw[g.fll];exact g.all)) (by decide) (by decide)
theorem x6 {h w:Nat} {d:D} (hd:d∈pls h w):∃ y x:Nat,d=pD y x∧y < h∧x < w:=by
 obtain⟨l,hl,hd⟩:=List.mem_flatten.mp hd
 obtain⟨y,hy,rfl⟩:=List.mem_map.mp hl
 obtain⟨x,hx,rfl⟩:=List.mem_map.mp hd
 exact⟨y,x,rfl,List.mem_range.mp hy,List.mem_range.mp hx⟩
theorem uT {h w:Nat} (hh:h≤64) (hw:w≤64) (hl:h * w≤512):Sh 500000 3 (.lst (pls h w)):=.up (.lst (n:=2 * (100 + 2) + 3) (k:=2) (l:=512) (fun x hx=>by
 obtain⟨y,x,rfl,hy,hx⟩:=x6 hx
 exact .tup (fun z hz=>by
  simp only[List.mem_cons,List.not_mem_nil,or_false] at hz
  rcases hz with rfl | rfl <;> exact .int (by omega)) (by simp)) (by rw[jL];exact hl)) (by decide) (by decide)
theorem big {d:D} (h:Sh 500000 3 d):Sh 10000000 20 d:=.up h (by decide) (by decide)
theorem sD {w:Nat} (hw:0 < w):∀ h:Nat,(List.range (h * w)).map (fun k:Nat=>pD ((0 + (k:Int)) / (w:Int)) ((0 + (k:Int)) % (w:Int)))=pls h w
 | 0=>by simp [pls]
 | h + 1=>by
  rw[Nat.add_mul,Nat.one_mul,List.range_add,List.map_append,sD hw h]
  show _=((List.range (h + 1)).map (n9 w)).flatten
  rw[← ke]
  congr 1
  unfold n9
  rw[List.map_map]
  refine List.map_congr_left fun x hx=>?_
  have hx:=List.mem_range.mp hx
  simp only[Function.comp_apply,Int.zero_add]
  have e1:((h * w + x:Nat):Int) / (w:Int)=(h:Int):=by
   rw[← Int.natCast_ediv]
   congr 1
   rw[Nat.add_comm,Nat.add_mul_div_right _ _ hw,Nat.div_eq_of_lt hx,Nat.zero_add]
  have e2:((h * w + x:Nat):Int) % (w:Int)=(x:Int):=by
   rw[← Int.natCast_emod]
   congr 1
   rw[Nat.add_comm,Nat.add_mul_mod_self_right,Nat.mod_eq_of_lt hx]
  rw[e1,e2]
theorem oE {α:Type} {w x:Nat} (hx:x < w):∀ {R:List (List α)} {y:Nat},(∀ r∈R,r.length=w)→R.flatten[y * w + x]?=(R[y]?).bind (·[x]?)
 | [],y,_=>by simp
 | r::R,0,h=>by
  rw[List.flatten_cons,Nat.zero_mul,Nat.zero_add,List.getElem?_append_left (by rw[h r (.head _)];exact hx)];rfl
 | r::R,y + 1,h=>by
  have hr:=h r (.head _)
  rw[List.flatten_cons,Nat.add_mul,Nat.one_mul,List.getElem?_append_right (by rw[hr];omega),hr,show y * w + w + x - w=y * w + x by omega,oE hx fun s hs=>h s (.tail _ hs)]
  rfl
theorem A0 {h w k:Nat} {d:D} (hd:(pls h w)[k]?=some d):∃ y x:Nat,d=pD y x∧y < h∧x < w∧k=y * w + x:=by
 have lt:=gJ hd
 rw[jL] at lt
 have hw:0 < w:=by
  rcases Nat.eq_zero_or_pos w with z | z
  ·subst z;simp at lt
  ·exact z
 have hy:k / w < h:=Nat.div_lt_of_lt_mul (by rw[Nat.mul_comm];exact lt)
 have hx:k % w < w:=Nat.mod_lt _ hw
 have e:k=k / w * w + k % w:=by rw[Nat.mul_comm];exact(Nat.div_add_mod k w).symm
 refine⟨k / w,k % w,?_,hy,hx,e⟩
 rw[e] at hd
 unfold pls at hd
 rw[oE hx (fun r hr=>by obtain⟨y,_,rfl⟩:=List.mem_map.mp hr;exact lR)] at hd
 rw[List.getElem?_map,List.getElem?_range hy] at hd
 simp only[Option.map_some,Option.bind_some] at hd
 unfold n9 at hd
 rw[List.getElem?_map,List.getElem?_range hx] at hd
 exact(Option.some.inj hd).symm
theorem D9 {n:Nat} {a b:Int}:eqN (n + 1) (pD a b) (pD a b)=some true:=by
 unfold eqN
 simp [dz,eqN]
def xx (a:Ad):S3:=fun Γ Q=>∃ (w:Nat) (R:List (List Int)),Γ=[some (.fz (fD a R)),some (.fz (rD R))]∧GR w R∧Q (.fz (.bl true)) Γ
theorem de (T:Txt K mg a):bK P w K mg base CX0 5 a.gR a.fU ["_law_field","_law_rows_here"] (sp3 K 2 (xx a)):=by
 refine ok3 T.cX b9 (hbody:=fun cdv A outer s H E hr=>⟨_,_,(ah (aU (i:=2) b9.nd rfl (Or.inr rfl) (bu (ab (ar (dF (by rfl)) (by rfl) T.z_len (by decide +kernel) (aa (bv 1) ag)) (ab (ar (dF (by rfl)) (by rfl) T.z_len (by decide +kernel) (aa (P3.opd (aX (by rfl) (bv 1) (P3.opd af) (fun _ _=>rfl))) ag)) ai))))
   (ah (bI (P3W.pt (dr (aZ (aY (ay (by rfl) (eC T) (hr.mono (by decide)) (by rfl) T.eX T.eh.kp T.eZ (aa (P3.opd (aQ (by rfl) (bv 0) T.ax T.dq (dn T) (hr.mono (by decide)) T.ed)) ag)))) (cL (aZ (aY (ay (by rfl) (eC T) (hr.mono (by decide)) (by rfl) T.eX T.eh.kp T.eZ (aa (P3.opd (aQ (by rfl) (bv 0) T.ax T.dQ (dN T) (hr.mono (by decide)) T.eI)) ag))))))) (aj (aB cq)) bh)
   (ah (bI (bj (iI (by rfl) hr) (P3.opd (bu (ab (aQ (by rfl) (bv 0) T.ax T.dq (dn T) (hr.mono (by decide)) T.ed) (ab (aQ (by rfl) (bv 0) T.ax T.dQ (dN T) (hr.mono (by decide)) T.eI) ai)))) (bv 2) (aW _)) (aj (aB cq)) bh)
   (ah (aU (i:=3) b9.nd rfl (Or.inl rfl) (bX ai))
   (ah (fP PassesOwn.never rfl (cD (by rfl) (p3v 1)) (a_ (i:=4) b9.nd rfl (Or.inl rfl))
   (aj (aU (i:=3) b9.nd rfl (Or.inl rfl) (cO (bv 3) (bv 4)))))
   (ah (gC (i:=5) b9.nd rfl rfl rfl (cV (by rfl) T.z_range (ab (eP (P3.opd (aX (by rfl) (bv 2) (P3.opd af) (fun _ _=>rfl))) (P3.opd (aX (by rfl) (bv 2) (P3.opd af) (fun _ _=>rfl)))) ai)) gm (fun _ _ _ _ _=>(a_ (i:=0) gm.nd rfl (Or.inl rfl))) (fun _ _ _ _ _=>(ar w9 (by rfl) T.z_divmod (by decide +kernel) (aa (bv 0) (aa (P3.opd (aX (by rfl) (bv 1) (P3.opd af) (fun _ _=>rfl))) ag)))))
   (ah (bI (P3W.pt (dr (aZ (aY (ay (by rfl) (fR T) (hr.mono (by decide)) (by rfl) T.gI T.e_.kp T.gX (aa (P3.opd (aQ (by rfl) (bv 0) T.ax T.bg (bf T) (hr.mono (by decide)) T.br)) (aa (P3.opd (p3v 1)) ag))))) (cL (aZ (aY (ay (by rfl) (fR T) (hr.mono (by decide)) (by rfl) T.gI T.e_.kp T.gX (aa (P3.opd (aQ (by rfl) (bv 0) T.ax T.eE (eD T) (hr.mono (by decide)) T.e7)) (aa (P3.opd (p3v 3)) ag)))))))) (aj (aB cq)) bh)
   (ah (bI (aZ (aY (ay (by rfl) (fR T) (hr.mono (by decide)) (by rfl) T.gI T.e_.kp T.gX (aa (P3.opd (aQ (by rfl) (bv 0) T.ax T.eR (eQ T) (hr.mono (by decide)) T.fE)) (aa (P3.opd (p3v 5)) ag))))) (aj (aB cq)) bh)
   (ah (fP PassesOwn.never rfl (BR (by rfl) T.z_zip (ab (p3v 5) (ab (p3v 3) ai))) (wC (is:=[6,7]) (by rfl) (eJ (eB (i:=6) b9.nd rfl (Or.inl rfl)) (eJ (eB (i:=7) b9.nd rfl (Or.inl rfl)) lg)) rfl)
   (aj (bI (bj (iI (by rfl) hr) (P3.opd (ar (eY (by rfl) hr) (by rfl) T.z_repr (by decide +kernel) (aa (P3.opd (dJ (by rfl) (bv 0) T.ax T.pU (pK T) (hr.mono (by decide)) T.rX (aa (P3.opd (p3v 6)) ag))) ag))) (P3.opd (ar (eY (by rfl) hr) (by rfl) T.z_repr (by decide +kernel) (aa (bv 7) ag))) (aW _)) (aj (aB cq)) bh)))
   (aj (aB cq))))))))))),fun Γa Q h hl=>?_⟩)
 obtain⟨w,R,rfl,g,q⟩:=h
 obtain⟨r0,h0,hm0,hl0⟩:=g.at0
 have g1:=g.h1
 have g2:=g.h2
 have w1:=g.w1
 have w2:=g.w2
 walk_at "n5"
 refine dj.mpr ⟨il r0,cS (by decide) (by rw[List.getElem?_map,show (Int.toNat 0)=0 from rfl,h0];rfl),?_⟩
 walk_at "n5"
 rw[List.length_map,List.length_map,hl0]
 refine⟨z2,by decide +kernel,w,R,rfl,g,?_⟩
 walk_at "n5"
 refine⟨_,rfl,rfl,?_⟩
 walk_at "n5"
 refine⟨by decide +kernel,w,R,rfl,g,?_⟩
 walk_at "n5"
 refine⟨_,rfl,rfl,?_⟩
 walk_at "n5"
 refine⟨by decide +kernel,w,R,rfl,g,?_⟩
 walk_at "n5"
 refine⟨by decide +kernel,w,R,rfl,g,?_⟩
 walk_at "n5"
 refine⟨z2,true,D9,?_⟩
 walk_at "n5"
 refine⟨Nat.zero_le _,dk (fun k Γ=>∃ s,Γ=[some (.fz (fD a R)),some (.fz (rD R)),some (.fz (pD R.length w)),some (.ow (il (R.take k).flatten)),fo s,none,none,none]) ⟨none,rfl⟩ ?_ ?_⟩
 ·rintro k d Γ hd ⟨s,rfl⟩
  obtain⟨r,hr',rfl⟩:=dc hd
  have hl':=g.len r (List.mem_of_getElem? hr')
  have t1:=g.take k
  walk_at "n5"
  refine⟨je (by rw[List.length_map,List.length_map];omega),some (il r),?_⟩
  rw[p7 hr',← List.map_append];rfl
 ·rintro Γ ⟨s,rfl⟩
  rw[List.take_of_length_le (by rw[List.length_map];exact Nat.le_refl _)]
  have rw1:R.length * w≤512:=g.all
  walk_at "n5"
  rw[← Int.natCast_mul,Int.toNat_natCast]
  refine⟨.inl ⟨by omega,by omega⟩,by omega,by omega,small (by rw[kY];omega),cF (fun k ys Γc=>ys=(List.range k).map (fun k:Nat=>pD ((0 + (k:Int)) / (w:Int)) ((0 + (k:Int)) % (w:Int)))∧∃ s,Γc=[fo s,some (.fz (pD R.length w))]) ⟨rfl,none,rfl⟩ ?_ ?_⟩
  ·rintro k d ys Γc hd hk ⟨rfl,s,rfl⟩
   obtain⟨lt,rfl⟩:=dH hd
   walk_at "n5"
   exact⟨⟨by omega,by omega⟩,snoc rfl,some _,rfl⟩
  ·rintro ys Γc hk ⟨rfl,s',rfl⟩
   rw[kY,sD (by omega)]
   walk_at "n5"
   refine⟨by decide +kernel,w,R,rfl,g,?_⟩
   walk_at "n5"
   refine⟨_,rfl,big (kX g),?_⟩
   walk_at "n5"
   refine⟨by decide +kernel,w,R,rfl,g,?_⟩
   walk_at "n5"
   refine⟨_,rfl,big (so g),?_⟩
   walk_at "n5"
   refine⟨by decide +kernel,w,R,rfl,g,?_⟩
   walk_at "n5"
   refine⟨_,rfl,big (uT g.h2 g.w2 g.all),?_⟩
   walk_at "n5"
   refine dk (fun k Γ=>∃ s1 s2 s3,Γ=[some (.fz (fD a R)),some (.fz (rD R)),some (.fz (pD R.length w)),some (.fz (il R.flatten)),fo s1,some (.fz (.lst (pls R.length w))),fo s2,fo s3]) ⟨s,none,none,rfl⟩ ?_ ?_
   ·rintro k d Γ hd ⟨s1,s2,s3,rfl⟩
    obtain⟨pl,nu,hp,hn,rfl⟩:=lD hd
    obtain⟨y,x,rfl,ly,lx,rfl⟩:=A0 hp
    obtain⟨n,hn',rfl⟩:=dc hn
    rw[oE lx g.len] at hn'
    obtain⟨r,hr',rl,rf⟩:=g.row ly
    rw[hr'] at hn'
    have hn:r[x]?=some n:=hn'
    have nb:=rf n (List.mem_of_getElem? hn)
    have ok:okR (.int n):=.inr (.inr (.inr (.inl ⟨n,rfl,by omega⟩)))
    walk_at "n5"
    refine⟨by decide +kernel,w,R,y,x,r,n,rfl,g,hr',hn,?_⟩
    walk_at "n5"
    refine⟨ok,ok,?_⟩
    walk_at "n5"
    exact⟨s1,some _,some _,rfl⟩
   ·rintro Γ ⟨s1,s2,s3,rfl⟩
    walk_at "n5"
    exact q
def PTh (d:D):Prop:=(knD d=true∧∀ xs,d≠.tup xs)∨(∃ xs,d=.tup xs∧xs.length≠2)∨∃ x y,d=.tup [x,y]∧knD x=true∧knD y=true
def Dg:D→Bool
 | .tup [x,y]=>knD x && knD y
 | d=>knD d
theorem AU {d:D} (h:Dg d=true):PTh d:=by
 unfold Dg at h
 split at h
 ·rw[Bool.and_eq_true] at h
  exact .inr (.inr ⟨_,_,rfl,h.1,h.2⟩)
 ·rename_i hn
  cases d <;> first
   | (rename_i xs;refine .inr (.inl ⟨xs,rfl,fun z=>?_⟩);match xs,z with | [x,y],_=>exact(hn x y rfl).elim)
   | (exact .inl ⟨h,fun _ z=>by cases z⟩)
theorem PTh.kn {d:D} (h:PTh d):knT d:=by
 rcases h with ⟨h,n⟩ | ⟨xs,rfl,n⟩ | ⟨x,y,rfl,h1,h2⟩
 ·exact⟨h,fun x y e=>absurd e (n _)⟩
 ·exact⟨rfl,fun x y e=>by cases e;exact absurd rfl n⟩
 ·exact⟨rfl,fun _ _ e=>by cases e;exact⟨h1,h2⟩⟩
def vo (a:Ad):S3:=fun Γ Q=>∃ (w:Nat) (R:List (List Int)),Γ=[some (.fz (fD a R)),some (.fz (pD R.length w))]∧GR w R∧Q (.fz (.bl true)) Γ
theorem ik (T:Txt K mg a):bK P w K mg base CX0 4 a.c_ a.cQ ["_law_field","_law_size_here"] (sp3 K 2 (vo a)):=by
 refine ok3 T.eV aK (hbody:=fun cdv A outer s H E hr=>⟨_,_,(ah (aU (i:=2) aK.nd rfl (Or.inl rfl) (bu (ab (ek (P3.opd (aX (by rfl) (bv 1) (P3.opd af) (fun _ _=>rfl))) (P3.opd af)) (ab (ek (P3.opd (aX (by rfl) (bv 1) (P3.opd af) (fun _ _=>rfl))) (P3.opd af)) ai))))
   (ah (aU (i:=3) aK.nd rfl (Or.inl rfl) (bX (ab (bu (ab af (ab af ai))) (ab (p3v 2) (ab (bu (ab (aX (by rfl) (bv 1) (P3.opd af) (fun _ _=>rfl)) (ab af ai))) (ab (bu (ab af (ab (aX (by rfl) (bv 1) (P3.opd af) (fun _ _=>rfl)) ai))) (ab (bu (ab (jh (P3.opd af)) (ab af ai))) (ab (bu (ab af (ab (jh (P3.opd af)) ai))) (ab (bu (ab cq (ab af ai))) (ab (bu (ab af (ab cq ai))) ai))))))))))
   (ah (aU (i:=3) aK.nd rfl (Or.inl rfl) (cO (bv 3) (P3.opd (bX (ab (bX (ab af (ab af ai))) (ab (bu (ab af ai)) (ab (bu (ab af (ab af (ab af ai)))) (ab qR (ab af (ab oi (ab (bu (ab qR (ab af ai))) (ab (bu (ab af (ab oi ai))) (ab (bu (ab (bu (ab af (ab af ai))) ai)) (ab vF (ab (p3v 2) ai)))))))))))))))
   (ah (fP PassesOwn.never rfl (cD (by rfl) (p3v 3)) (a_ (i:=4) aK.nd rfl (Or.inl rfl))
   (ah (aU (i:=5) aK.nd rfl (Or.inl rfl) (fj (ar (Af T.ty) (by rfl) T.z_isinstance (by decide +kernel) (aa (bv 4) (aa (P3.opd (ig (n:="tuple") (by rfl) T.z_tuple (by decide +kernel))) ag))) (gH (fQ (cE (by rfl) hr) (P3.opd (ar (dF (by rfl)) (by rfl) T.z_len (by decide +kernel) (aa (bv 4) ag))) (P3.opd af) (aW _)))))
   (ah (aU (i:=5) aK.nd rfl (Or.inl rfl) (fj (p3v 5) (fj (ay (by rfl) (eC T) (hr.mono (by decide)) (by rfl) T.eX T.eh.kp T.eZ (aa (P3.opd (aX (by rfl) (bv 4) (P3.opd af) (fun _ _=>rfl))) ag)) (gH (ay (by rfl) (eC T) (hr.mono (by decide)) (by rfl) T.eX T.eh.kp T.eZ (aa (P3.opd (aX (by rfl) (bv 4) (P3.opd af) (fun _ _=>rfl))) ag))))))
   (ah (aU (i:=5) aK.nd rfl (Or.inl rfl) (fj (p3v 5) (fj (lW kD tG (P3.opd af) (P3.opd (aX (by rfl) (bv 4) (P3.opd af) (fun _ _=>rfl))) (P3.opd (aX (by rfl) (bv 1) (P3.opd af) (fun _ _=>rfl)))) (gH (lW kD tG (P3.opd af) (P3.opd (aX (by rfl) (bv 4) (P3.opd af) (fun _ _=>rfl))) (P3.opd (aX (by rfl) (bv 1) (P3.opd af) (fun _ _=>rfl))))))))
   (ah (aU (i:=6) aK.nd rfl (Or.inl rfl) (dJ (by rfl) (bv 0) T.ax T.dR (dO T) (hr.mono (by decide)) T.ez (aa (P3.opd (p3v 4)) ag)))
   (aj (bI (P3W.pt (dr (aZ (aY (ar (tF T.ty) (by rfl) T.z_isinstance (by decide +kernel) (aa (bv 6) (aa (P3.opd (ig (n:="bool") (by rfl) T.z_bool (by decide +kernel))) ag))))) (cL (bj (iI (by rfl) hr) (bv 6) (bv 5) (aW _))))) (aj (aB cq)) bh)))))))
   (aj (aB cq)))))),fun Γa Q h hl=>?_⟩)
 obtain⟨w,R,rfl,g,q⟩:=h
 walk_at "n5"
 refine⟨z2,z2,z2,z2,z2,z2,z2,z2,je (by decide),z2,z1,z3,z2,z2,z2,z1,je (by decide),je (by decide),dk (fun k Γ=>∃ l1 l2 s1 s2 s3,Γ=[some (.fz (fD a R)),some (.fz (pD R.length w)),some (.fz l1),some (.fz l2),fo s1,fo s2,fo s3]) ⟨_,_,none,none,none,rfl⟩ ?_ ?_⟩
 ·rintro k d Γ hd ⟨l1,l2,s1,s2,s3,rfl⟩
  have hp:PTh d:=AU (by
   have hm:=List.mem_of_getElem? hd
   simp only[List.mem_cons,List.not_mem_nil,or_false] at hm
   rcases hm with rfl | rfl | rfl | rfl | rfl | rfl | rfl | rfl | rfl | rfl | rfl | rfl | rfl | rfl | rfl | rfl | rfl | rfl | rfl <;> rfl)
  have hkn:=hp.kn
  clear hd
  rcases hp with ⟨hk,n⟩ | ⟨xs,rfl,n⟩ | ⟨x,y,rfl,k1,k2⟩
  ·cases d <;> first
    | (cases hk;done)
    | (exact absurd rfl (n _))
    | (walk_at "n5";refine⟨by decide +kernel,w,R,_,rfl,g,hkn,?_⟩;walk_at "n5";exact⟨_,_,some _,some _,some _,rfl⟩)
  ·walk_at "n5"
   rw[show ((xs.length:Int) == 2)=false by rw[beq_eq_false_iff_ne];omega]
   walk_at "n5"
   refine⟨by decide +kernel,w,R,_,rfl,g,hkn,?_⟩
   have e:plD (.tup xs) R.length w=false:=by
    unfold plD
    split
    ·rename_i x y z;cases z;exact absurd rfl n
    ·rfl
   rw[e]
   walk_at "n5"
   exact⟨_,_,some _,some _,some _,rfl⟩
  ·walk_at "n5"
   rw[show (((2:Nat):Int) == 2)=true from rfl]
   walk_at "n5"
   refine⟨x,rfl,k1,?_⟩
   cases x <;> (try (cases k1;done))
   case int i=>
    walk_at "n5"
    refine⟨y,rfl,k2,?_⟩
    cases y <;> (try (cases k2;done))
    case int j=>
     walk_at "n5"
     have e:plD (.tup [.int i,.int j]) R.length w=((jS 0 i && um i R.length) && (jS 0 j && um j w)):=by
      simp only[plD,whD,jS,um]
      congr 2
      ·exact decide_eq_decide.mpr (by omega)
      ·exact decide_eq_decide.mpr (by omega)
     cases c1:jS 0 i <;> cases c2:um i (R.length:Int) <;> cases c3:jS 0 j <;> cases c4:um j (w:Int) <;> (
      rw[c1,c2,c3,c4] at e
      walk_at "n5"
      refine⟨by decide +kernel,w,R,_,rfl,g,hkn,?_⟩
      rw[e]
      walk_at "n5"
      exact⟨_,_,some _,some _,some _,rfl⟩)
    all_goals (
     walk_at "n5"
     refine⟨by decide +kernel,w,R,_,rfl,g,hkn,?_⟩
     rw[show plD _ R.length w=false by simp only[plD,whD,Bool.and_false]]
     walk_at "n5"
     exact⟨_,_,some _,some _,some _,rfl⟩)
   all_goals (
    walk_at "n5"
    refine⟨by decide +kernel,w,R,_,rfl,g,hkn,?_⟩
    rw[show plD _ R.length w=false by simp only[plD,whD,Bool.false_and]]
    walk_at "n5"
    exact⟨_,_,some _,some _,some _,rfl⟩)
 ·rintro Γ ⟨l1,l2,s1,s2,s3,rfl⟩
  walk_at "n5"
  exact q
theorem nB {x:D} {xs:List D}:(x::xs)[xs.length + 1 - 1]?=some ((x::xs)[xs.length]'(by simp)):=by
 rw[Nat.add_sub_cancel,List.getElem?_eq_getElem (by simp)]
theorem y_ {x:D} {xs:List D}:atI (x::xs) (-1)=some ((x::xs)[xs.length]'(by simp)):=by
 unfold atI ixN
 rw[if_neg (by decide),if_pos (by simp only[List.length_cons];omega)]
 show (x::xs)[_]?=_
 rw[show ((-1:Int) + ((x::xs).length:Int)).toNat=xs.length by simp only[List.length_cons];omega,List.getElem?_eq_getElem (by simp)]
theorem DE {o:Option Nat} {k:Nat→Prop} {t:Tag k}:mN o k t↔∃ d,o=some d∧k d:=by
 cases o with
 | none=>exact⟨fun h=>h.elim,fun ⟨_,h,_⟩=>by cases h⟩
 | some d=>exact⟨fun h=>⟨d,rfl,h⟩,fun ⟨_,h,q⟩=>by cases h;exact q⟩
def uJ:S3:=fun Γ Q=>∃ (d:D) (c:Int) (xs:List D),Γ=[some (.ln d),some (.ln (.lst xs))]∧Box c d∧c≤900000∧xs.length≤1000∧∀ d' ys,Box (c + 2) d'→Q (.fz .non) [some (.ln d'),some (.ln (.lst ys))]
theorem dM (T:Txt K mg a):bK P w K mg base CX0 2 a.fZ a.ft ["_law_box_here","_law_some"] (sp3 K 2 uJ):=by
 refine ok3 T.dm hU (hbody:=fun cdv A outer s H E hr=>⟨_,_,(ah (aU (i:=2) hU.nd rfl (Or.inl rfl) (ay (by rfl) (aH T) (hr.mono (by decide)) (by rfl) T.aN T.aM.kp T.aO (aa (bv 0) (aa (P3.opd af) ag))))
   (aj (bI (P3W.pt (dr (bj (cE (by rfl) hr) (bv 2) (P3.opd af) (aW _)) (cL (bj (cE (by rfl) hr) (bv 1) (P3.opd (bX ai)) (aW _))))) (aj (cK (vG 1 (by rfl) (bv 1)))) (aj (bI (bj (cE (by rfl) hr) (bv 2) (P3.opd af) (aW _)) (aj (cK (qQ 1 (by rfl) (bv 1)))) (aj (bI (bj (cE (by rfl) hr) (bv 2) (P3.opd af) (aW _)) (aj (cK (yf 1 (by rfl) (bv 1)))) (aj (bI (bj (cE (by rfl) hr) (bv 2) (P3.opd af) (aW _)) (aj (cK (vE 1 (by rfl) (bv 1)))) (aj (bI (bj (cE (by rfl) hr) (bv 2) (P3.opd af) (aW _)) (aj (cK (nc 1 (by rfl) (bv 1) (ay (by rfl) (aH T) (hr.mono (by decide)) (by rfl) T.aN T.aM.kp T.aO (aa (bv 0) (aa (P3.opd (cO (P3.opd (ar (dF (by rfl)) (by rfl) T.z_len (by decide +kernel) (aa (bv 1) ag))) (P3.opd af))) ag))) (aX (by rfl) (bv 1) (P3.opd af) (fun _ _=>rfl))))) (aj (bI (bj (cE (by rfl) hr) (bv 2) (P3.opd af) (aW _)) (ah (lN 1 (bv 1) (P3.opd af) (aX (by rfl) (bv 1) (P3.opd (jh (P3.opd af))) (fun _ _=>rfl)))
   (aj (cK (nq 1 (by rfl) (bv 1) (aX (by rfl) (bv 1) (P3.opd af) (fun _ _=>rfl)))))) (aj (cK (nc 1 (by rfl) (bv 1) af (vE 1 (by rfl) (bv 1)))))))))))))))))),fun Γa Q h hl=>?_⟩)
 obtain⟨d,c,xs,rfl,hb,hc,hx,q⟩:=h
 walk_at "n5"
 refine⟨_,_,7,rfl,hb,by omega,by decide,by decide,fun r1 d1 l1 u1 b1=>?_⟩
 walk_at "n5"
 refine Aj (fun h=>?_) (fun h=>?_)
 ·walk_at "n5"
  exact q _ _ (b1.up (by omega))
 walk_at "n5"
 refine⟨Nat.zero_le _,?_⟩
 cases xs with
 | nil=>
  walk_at "n5"
  exact q _ _ (b1.up (by omega))
 | cons x xs=>
  walk_at "n5"
  refine gu (fun h1=>?_) (fun h1=>?_)
  ·walk_at "n5"
   exact q _ _ (b1.up (by omega))
  walk_at "n5"
  refine gu (fun h2=>?_) (fun h2=>?_)
  ·walk_at "n5"
   exact q _ _ (b1.up (by omega))
  walk_at "n5"
  refine gu (fun h3=>?_) (fun h3=>?_)
  ·walk_at "n5"
   refine dj.mpr ⟨_,nB,?_⟩
   walk_at "n5"
   exact q _ _ (b1.up (by omega))
  walk_at "n5"
  refine gu (fun h4=>?_) (fun h4=>?_)
  ·walk_at "n5"
   simp only[List.length_cons] at hx
   refine⟨_,_,_,rfl,b1,by omega,by omega,by omega,fun r2 d2 l2 u2 b2=>?_⟩
   walk_at "n5"
   exact⟨l2,by omega,small (by omega),q _ _ (b2.up (by omega))⟩
  walk_at "n5"
  refine gu (fun h5=>?_) (fun h5=>?_)
  ·walk_at "n5"
   simp only[List.length_cons] at hx
   refine dj.mpr ⟨_,y_,?_⟩
   walk_at "n5"
   refine DE.mpr ⟨0,rm (k:=0) (by simp),?_⟩
   walk_at "n5"
   exact⟨small (by omega),q _ _ (b1.up (by omega))⟩
  walk_at "n5"
  simp only[List.length_cons] at hx
  refine dj.mpr ⟨_,nB,?_⟩
  walk_at "n5"
  exact⟨by decide,by omega,small (by rw[List.length_dropLast];simp only[List.length_cons];omega),q _ _ (b1.up (by omega))⟩
def Cz (h w:Nat) (d:D):Prop:=∃ y x:Nat,d=pD y x∧y < h∧x < w
theorem Cz.of {h w:Nat} {y x:Int} (h1:0≤y) (h2:y < h) (h3:0≤x) (h4:x < w):Cz h w (pD y x):=⟨y.toNat,x.toNat,by rw[Int.toNat_of_nonneg h1,Int.toNat_of_nonneg h3],by omega,by omega⟩
def yi (a:Ad):S3:=fun Γ Q=>∃ (d:D) (w:Nat) (R:List (List Int)),Γ=[some (.ln d),some (.fz (fD a R)),some (.fz (rD R))]∧GR w R∧Box 1000 d∧∀ d',Box 2000 d'→Q (.fz (.bl true)) [some (.ln d'),some (.fz (fD a R)),some (.fz (rD R))]
theorem iV (T:Txt K mg a):bK P w K mg base CX0 8 a.dv a.cZ ["_law_box_here","_law_field","_law_rows_here"] (sp3 K 3 (yi a)):=by
 refine ok3 T.fF aI (hbody:=fun cdv A outer s H E hr=>⟨_,_,(ah (fP PassesOwn.never rfl (cD (by rfl) (bX (ab (bu (ab (ay (by rfl) (aH T) (hr.mono (by decide)) (by rfl) T.aN T.aM.kp T.aO (aa (bv 0) (aa (P3.opd (ar (dF (by rfl)) (by rfl) T.z_len (by decide +kernel) (aa (bv 2) ag))) ag))) (ab (ay (by rfl) (aH T) (hr.mono (by decide)) (by rfl) T.aN T.aM.kp T.aO (aa (bv 0) (aa (P3.opd (ar (dF (by rfl)) (by rfl) T.z_len (by decide +kernel) (aa (P3.opd (aX (by rfl) (bv 2) (P3.opd af) (fun _ _=>rfl))) ag))) ag))) ai))) (ab (bu (ab (ek (P3.opd (ar (dF (by rfl)) (by rfl) T.z_len (by decide +kernel) (aa (bv 2) ag))) (P3.opd af)) (ab (ek (P3.opd (ar (dF (by rfl)) (by rfl) T.z_len (by decide +kernel) (aa (P3.opd (aX (by rfl) (bv 2) (P3.opd af) (fun _ _=>rfl))) ag))) (P3.opd af)) ai))) ai)))) (a_ (i:=3) aI.nd rfl (Or.inl rfl))
   (ah (aU (i:=4) aI.nd rfl (Or.inl rfl) (ay (by rfl) (ip T) (hr.mono (by decide)) (by rfl) T.ja T.gf.kp T.jc (aa (bv 0) ag)))
   (ah (aU (i:=5) aI.nd rfl (Or.inl rfl) (nk (dJ (by rfl) (bv 1) T.ax T.eM (eL T) (hr.mono (by decide)) T.eU (aa (P3.opd (p3v 3)) (aa (P3.opd (p3v 4)) ag)))))
   (sA (k_ 12 12 6 (by decide) (by decide) (iN rfl iU) (gC (i:=6) aI.nd rfl rfl rfl (cD (by rfl) (p3v 2)) bZ (fun _ _ _ _ _=>(a_ (i:=0) bZ.nd rfl (Or.inl rfl))) (fun _ _ _ _ _=>(dE (km (by rfl)) (by rfl) T.z_list (by decide +kernel) (aa (bv 0) ag)))) (lV rfl (cD (by rfl) (p3v 2)) bZ (fun _ _ _ _ _=>(a_ (i:=0) bZ.nd rfl (Or.inl rfl))) (fun _ _ _ _ _=>(dE (km (by rfl)) (by rfl) T.z_list (by decide +kernel) (aa (bv 0) ag))))
   (ah (sv (bA (aX (by rfl) (bA (p3v 6)) (P3.opd (aX (by rfl) (bv 3) (P3.opd af) (fun _ _=>rfl))) (fun _ _=>rfl))) (P3.opd (aX (by rfl) (bv 3) (P3.opd af) (fun _ _=>rfl))) (p3v 4))
   (sA (ah (bI (P3W.pt (dr (aZ (aY (ar (Ag (by rfl) T.p3) (by rfl) T.z_isinstance (by decide +kernel) (aa (bv 5) (aa (P3.opd (sJ (by rfl) T.eN)) ag))))) (dr (aZ (aY (ay (by rfl) (de T) (hr.mono (by decide)) (by rfl) T.dU T.cX.kp T.d_ (aa (P3.opd (p3v 5)) (aa (P3.opd (p3v 6)) ag))))) (cL (bj (iI (by rfl) hr) (P3.opd (ar (eY (by rfl) hr) (by rfl) T.z_repr (by decide +kernel) (aa (P3.opd (aQ (by rfl) (bv 1) T.ax T.bg (bf T) (hr.mono (by decide)) T.br)) ag))) (P3.opd (ar (eY (by rfl) hr) (by rfl) T.z_repr (by decide +kernel) (aa (bv 2) ag))) (aW _)))))) (aj (aB cq)) bh)
   (aj (fP PassesOwn.never rfl (cD (by rfl) (bX (ab (bu (ab (p3v 1) (ab (p3v 5) ai))) (ab (bu (ab (p3v 5) (ab (p3v 1) ai))) ai)))) (wC (is:=[7,8]) (by rfl) (eJ (eB (i:=7) aI.nd rfl (Or.inl rfl)) (eJ (eB (i:=8) aI.nd rfl (Or.inl rfl)) lg)) rfl)
   (ah (aU (i:=9) aI.nd rfl (Or.inl rfl) (dJ (by rfl) (bv 7) T.ax T.dh (df T) (hr.mono (by decide)) T.ec (aa (P3.opd (p3v 8)) ag)))
   (aj (bI (P3W.pt (dr (aZ (aY (ar (tF T.ty) (by rfl) T.z_isinstance (by decide +kernel) (aa (bv 9) (aa (P3.opd (ig (n:="bool") (by rfl) T.z_bool (by decide +kernel))) ag))))) (cL (bj (iI (by rfl) hr) (bv 9) (P3.opd (fQ (cE (by rfl) hr) (bv 6) (bv 2) (aW _))) (aW _))))) (aj (aB cq)) bh)))))))))))))
   (ah (fP PassesOwn.never rfl (cD (by rfl) (bX (ab qR (ab (p3v 2) (ab af (ab cq (ab oi (ab (bu ai) (ab vF ai))))))))) (a_ (i:=10) aI.nd rfl (Or.inl rfl))
   (aj (bI (bj y7 (P3.opd (dJ (by rfl) (bv 1) T.ax T.dh (df T) (hr.mono (by decide)) T.ec (aa (P3.opd (p3v 10)) ag))) (P3.opd cq) (aW _)) (aj (aB cq)) bh)))
   (ah (aU (i:=11) aI.nd rfl (Or.inl rfl) (aQ (by rfl) (bv 1) T.ax T.eE (eD T) (hr.mono (by decide)) T.e7))
   (ah (bI (P3W.pt (ye (bj kD (P3.opd (ar (dF (by rfl)) (by rfl) T.z_len (by decide +kernel) (aa (bv 11) ag))) (P3.opd af) (aW _)) (vD (bj (iI (by rfl) hr) (P3.opd (dJ (by rfl) (P3.opd (iO T.mk_Field (bU T) (hr.mono (by decide)) (by rfl) T.eN T.cm (ab (bX (ab (p3v 11) ai)) ai))) T.ax T.dh (df T) (hr.mono (by decide)) T.ec (aa (P3.opd (p3v 1)) ag))) (P3.opd (fQ (cE (by rfl) hr) (P3.opd (ar (dF (by rfl)) (by rfl) T.z_len (by decide +kernel) (aa (bv 2) ag))) (P3.opd af) (aW _))) (aW _))))) (aj (aB cq)) bh)
   (aj (aB (fj (fQ xa (P3.opd (dJ (by rfl) (bv 1) T.ax T.dh (df T) (hr.mono (by decide)) T.ec (aa (P3.opd (iO T.mk_Field (bU T) (hr.mono (by decide)) (by rfl) T.eN T.cm (ab (fL rfl (cD (by rfl) (p3v 2)) d9 (fun _ _ _ _ _=>(a_ (i:=0) d9.nd rfl (Or.inl rfl))) (fun _ _ _ _ _=>(dE (km (by rfl)) (by rfl) T.z_list (by decide +kernel) (aa (bv 0) ag)))) ai))) ag))) (P3.opd cq) (aW _)) (gH (fQ xa (P3.opd (dJ (by rfl) (bv 1) T.ax T.dh (df T) (hr.mono (by decide)) T.ec (aa (P3.opd (p3v 1)) ag))) (P3.opd cq) (aW _)))))))))),fun Γa Q h hl=>?_⟩)
 obtain⟨d,w,R,rfl,g,hb,q⟩:=h
 obtain⟨r0,h0,hm0,hl0⟩:=g.at0
 have g1:=g.h1
 have g2:=g.h2
 have w1:=g.w1
 have w2:=g.w2
 have rl:R.length≤64:=g2
 rw[iS]
 walk_at "n5"
 have at0:atI (R.map il) 0=some (il r0):=cS (by decide) (by rw[List.getElem?_map,show (Int.toNat 0)=0 from rfl,h0];rfl)
 rw[List.length_map]
 refine⟨_,_,_,rfl,hb,by decide,by omega,by omega,fun r1 d1 l1 u1 b1=>?_⟩
 walk_at "n5"
 refine dj.mpr ⟨il r0,at0,?_⟩
 walk_at "n5"
 rw[List.length_map,hl0]
 refine⟨_,_,_,rfl,b1,by decide,by omega,by omega,fun r2 d2 l2 u2 b2=>?_⟩
 walk_at "n5"
 refine⟨z2,dj.mpr ⟨il r0,at0,?_⟩⟩
 walk_at "n5"
 rw[List.length_map,List.length_map,hl0]
 refine⟨z2,z2,dk (fun k Γ=>∃ d' s3 s4 s5 s6 s7 s8 s9,k≤2∧Box (1010 + 10 * (k:Int)) d'∧Γ=some (.ln d')::some (.fz (fD a R))::some (.fz (rD R))::fo s3::fo s4::fo s5::fo s6::fo s7::fo s8::fo s9::none::none::tlG (nn 65++tlE)) ⟨d2,none,none,none,none,none,none,none,by decide,b2.up (by decide),rfl⟩ ?_ ?_⟩
 ·rintro k pl Γ hd ⟨d',s3,s4,s5,s6,s7,s8,s9,hk,bd,rfl⟩
  have hk2:k < 2:=gJ hd
  obtain⟨y,x,rfl,ly,lx⟩:Cz R.length w pl:=by
   have hm:=List.mem_of_getElem? hd
   simp only[List.mem_cons,List.not_mem_nil,or_false] at hm
   rcases hm with rfl | rfl
   ·exact .of l1 u1 l2 u2
   ·exact .of (by omega) (by omega) (by omega) (by omega)
  obtain⟨r,hr',rl',rf⟩:=g.row ly
  walk_at "n5"
  refine⟨_,_,rfl,bd,by omega,fun n d3 n1 n2 b3=>?_⟩
  walk_at "n5"
  refine⟨by decide +kernel,w,R,y,x,r,n,rfl,g,hr',lx,⟨n1,n2⟩,?_⟩
  walk_at "n5"
  refine r_ Wk.refl ?_
  walk_at "n5"
  refine⟨small (by rw[List.length_map];omega),kh (fun k ys Γc=>ys=iR (R.take k)∧∃ s,Γc=[fo s]) ⟨rfl,none,rfl⟩ ?_ ?_⟩
  ·rintro j d ys Γc hd hj ⟨rfl,s,rfl⟩
   obtain⟨r,hr,rfl⟩:=dc hd
   walk_at "n5"
   exact⟨by rw[take_snoc hr,show iR (R.take j++[r])=iR (R.take j)++iR [r] from List.map_append];rfl,some _,rfl⟩
  ·rintro ys Γc hj ⟨rfl,s,rfl⟩
   rw[List.take_of_length_le (by rw[List.length_map];exact Nat.le_refl _)]
   walk_at "n5"
   refine n8 (pre:=[_,_,_,_,_,_,_,_,_,_,_,_]) (T:=tlE) (m:=65) rfl rfl (by decide) (by cases s6 <;> trivial) (by rw[List.length_map];omega) fun p qs hl=>?_
   rw[List.length_map] at hl
   obtain⟨q0,hq0⟩:∃ q0,qs[y]?=some q0:=⟨_,List.getElem?_eq_getElem (by rw[hl];exact ly)⟩
   walk_at "n5"
   refine qq (pre:=[_,_,_,_,_,_,_,_,_,_,_,_]) rfl rfl (.inl rfl) ?_
   walk_at "n5"
   refine dj.mpr ⟨.adr q0,cS (by omega) (by rw[List.getElem?_map,Int.toNat_natCast,hq0];rfl),?_⟩
   walk_at "n5"
   have hy0:(iR R)[y]?=some (r.map D.int):=by rw[List.getElem?_map,hr'];rfl
   refine qr (pre:=[_,_,_,_,_,_,_,_,_,_,_,_]) rfl rfl (.inl rfl) hq0 hy0 ?_
   walk_at "n5"
   refine qp (pre:=[_,_,_,_,_,_,_,_,_,_,_,_]) rfl rfl (.inl rfl) hq0 hy0 rfl (rm (by rw[List.length_map,rl'];exact lx)) ?_
   rw[wj]
   walk_at "n5"
   refine r_ (wkR (i:=6) (L:=12) (pre:=[_,_,_,_,_,_,_,_,_,_,_,_]) rfl (by decide) rfl (by rw[List.length_map,List.length_set];exact hl)) ?_
   rw[show qs.length + 1 + (65 - (qs.length + 1))=65 by omega]
   have g':=g.set (x:=x) hr' ⟨n1,n2⟩
   generalize R.set y (r.set x n)=R' at g' ⊢
   have ok:okR (rD R):=.inl ⟨.inl rfl,big (kX g)⟩
   walk_at "n5"
   refine⟨true,pG,?_⟩
   walk_at "n5"
   refine⟨w,R',rfl,g',?_⟩
   walk_at "n5"
   refine⟨by decide +kernel,w,R,rfl,g,?_⟩
   walk_at "n5"
   refine⟨ok,ok,?_⟩
   walk_at "n5"
   refine⟨z2,z2,z2,dk (fun j Γ=>∃ s7 s8 s9,Γ=some (.ln d3)::some (.fz (fD a R))::some (.fz (rD R))::some (.fz (pD y x))::some (.fz (.int n))::some (.fz (fD a R'))::some (.fz (rD R'))::fo s7::fo s8::fo s9::none::none::tlG (nn 65++tlE)) ⟨s7,s8,s9,rfl⟩ ?_ ?_⟩
   ·rintro j d Γ hd ⟨s7,s8,s9,rfl⟩
    obtain⟨A,B,rfl,gA,gB,e⟩:∃ A B,d=.tup [fD a A,fD a B]∧GR w A∧GR w B∧decide (B=A)=decide (R'=R):=by
     have hm:=List.mem_of_getElem? hd
     simp only[List.mem_cons,List.not_mem_nil,or_false] at hm
     rcases hm with rfl | rfl
     ·exact⟨R,R',rfl,g,g',rfl⟩
     ·exact⟨R',R,rfl,g',g,decide_eq_decide.mpr eq_comm⟩
    walk_at "n5"
    refine⟨by decide +kernel,w,A,fD a B,rfl,gA,.inr ⟨w,B,rfl,gB,?_⟩⟩
    rw[e]
    walk_at "n5"
    refine⟨_,p_,?_⟩
    cases decide (R'=R) <;> (
     walk_at "n5"
     exact⟨some _,some _,some _,rfl⟩)
   ·rintro Γ ⟨s7,s8,s9,rfl⟩
    walk_at "n5"
    exact⟨d3,some _,some _,some _,some _,s7,s8,s9,by omega,b3.up (by omega),rfl⟩
 ·rintro Γ ⟨d',s3,s4,s5,s6,s7,s8,s9,hk,bd,rfl⟩
  walk_at "n5"
  refine⟨Nat.zero_le _,je (by decide),dk (fun j Γ=>∃ s10,Γ=some (.ln d')::some (.fz (fD a R))::some (.fz (rD R))::fo s3::fo s4::fo s5::fo s6::fo s7::fo s8::fo s9::fo s10::none::tlG (nn 65++tlE)) ⟨none,rfl⟩ ?_ ?_⟩
  ·rintro j d Γ hd ⟨s10,rfl⟩
   have kn:knD d=true:=by
    have hm:=List.mem_of_getElem? hd
    simp only[List.mem_cons,List.not_mem_nil,or_false] at hm
    rcases hm with rfl | rfl | rfl | rfl | rfl | rfl | rfl <;> rfl
   walk_at "n5"
   refine⟨by decide +kernel,w,R,d,rfl,g,.inl ⟨kn,?_⟩⟩
   walk_at "n5"
   exact⟨some _,rfl⟩
  ·rintro Γ ⟨s10,rfl⟩
   walk_at "n5"
   refine⟨by decide +kernel,w,R,rfl,g,?_⟩
   walk_at "n5"
   refine Aj (fun h=>?_) (fun h=>?_)
   ·have fl:R.flatten.length≤64:=by
     have:=of_decide_eq_true h
     rw[List.length_map] at this
     omega
    have f1:1≤R.flatten.length:=by rw[g.fll];exact Nat.mul_pos (by omega) (by omega)
    have gF:GR R.flatten.length [R.flatten]:=⟨Nat.le_refl _,by rw[List.length_singleton];omega,f1,fl,by rw[List.length_singleton];omega,fun r hr=>by rw[List.mem_singleton] at hr;rw[hr],fun r hr=>by rw[List.mem_singleton] at hr;rw[hr];exact p9 g⟩
    have e1:decide (R=[R.flatten])=((R.length:Int) == 1):=by
     by_cases z:R.length=1
     ·obtain⟨r,rfl⟩:∃ r,R=[r]:=by
       match R,z with
       | [r],_=>exact⟨r,rfl⟩
      simp
     ·rw[decide_eq_false (fun e=>z (by rw[e];rfl))]
      exact(beq_eq_false_iff_ne.mpr (by omega)).symm
    walk_at "n5"
    refine⟨z1,R.flatten.length,[R.flatten],rfl,gF,?_⟩
    walk_at "n5"
    refine⟨by decide +kernel,R.flatten.length,[R.flatten],fD a R,rfl,gF,.inr ⟨w,R,rfl,g,?_⟩⟩
    rw[e1]
    walk_at "n5"
    rw[List.length_map]
    cases ((R.length:Int) == 1)
    ·walk_at "n5"
     refine⟨by decide +kernel,small (by rw[List.length_map];omega),cF (fun k ys Γc=>ys=(R.take k).map il∧∃ s,Γc=[fo s]) ⟨rfl,none,rfl⟩ ?_ ?_⟩
     ·rintro j d ys Γc hd hj ⟨rfl,s,rfl⟩
      obtain⟨r,hr,rfl⟩:=dc hd
      walk_at "n5"
      exact⟨by rw[take_snoc hr,List.map_append];rfl,some _,rfl⟩
     ·rintro ys Γc hj ⟨rfl,s,rfl⟩
      rw[List.take_of_length_le (by rw[List.length_map];exact Nat.le_refl _)]
      walk_at "n5"
      refine⟨w,R,rfl,g,?_⟩
      walk_at "n5"
      refine⟨w,R,fD a R,rfl,g,.inr ⟨w,R,rfl,g,?_⟩⟩
      rw[decide_eq_true (rfl:R=R)]
      walk_at "n5"
      refine⟨by decide +kernel,w,R,fD a R,rfl,g,.inr ⟨w,R,rfl,g,?_⟩⟩
      rw[decide_eq_true (rfl:R=R)]
      walk_at "n5"
      exact q _ (bd.up (by omega))
    ·walk_at "n5"
     refine⟨by decide +kernel,small (by rw[List.length_map];omega),cF (fun k ys Γc=>ys=(R.take k).map il∧∃ s,Γc=[fo s]) ⟨rfl,none,rfl⟩ ?_ ?_⟩
     ·rintro j d ys Γc hd hj ⟨rfl,s,rfl⟩
      obtain⟨r,hr,rfl⟩:=dc hd
      walk_at "n5"
      exact⟨by rw[take_snoc hr,List.map_append];rfl,some _,rfl⟩
     ·rintro ys Γc hj ⟨rfl,s,rfl⟩
      rw[List.take_of_length_le (by rw[List.length_map];exact Nat.le_refl _)]
      walk_at "n5"
      refine⟨w,R,rfl,g,?_⟩
      walk_at "n5"
      refine⟨w,R,fD a R,rfl,g,.inr ⟨w,R,rfl,g,?_⟩⟩
      rw[decide_eq_true (rfl:R=R)]
      walk_at "n5"
      refine⟨by decide +kernel,w,R,fD a R,rfl,g,.inr ⟨w,R,rfl,g,?_⟩⟩
      rw[decide_eq_true (rfl:R=R)]
      walk_at "n5"
      exact q _ (bd.up (by omega))
   ·walk_at "n5"
    refine⟨by decide +kernel,small (by rw[List.length_map];omega),cF (fun k ys Γc=>ys=(R.take k).map il∧∃ s,Γc=[fo s]) ⟨rfl,none,rfl⟩ ?_ ?_⟩
    ·rintro j d ys Γc hd hj ⟨rfl,s,rfl⟩
     obtain⟨r,hr,rfl⟩:=dc hd
     walk_at "n5"
     exact⟨by rw[take_snoc hr,List.map_append];rfl,some _,rfl⟩
    ·rintro ys Γc hj ⟨rfl,s,rfl⟩
     rw[List.take_of_length_le (by rw[List.length_map];exact Nat.le_refl _)]
     walk_at "n5"
     refine⟨w,R,rfl,g,?_⟩
     walk_at "n5"
     refine⟨w,R,fD a R,rfl,g,.inr ⟨w,R,rfl,g,?_⟩⟩
     rw[decide_eq_true (rfl:R=R)]
     walk_at "n5"
     refine⟨by decide +kernel,w,R,fD a R,rfl,g,.inr ⟨w,R,rfl,g,?_⟩⟩
     rw[decide_eq_true (rfl:R=R)]
     walk_at "n5"
     exact q _ (bd.up (by omega))
theorem uS {E1:E3} {b0 b1 b2 b3 b6 b7 b8:Option Sl} {s5:Option D} {A T:G} {g:Nat} {c:D→Sl} {p:Addr} {qs:List Addr} {X:List (List D)} (hA:A.length=g) (hc:c=.ow∨c=.ln) (hl:X.length=qs.length) (hq:qs.length≤64) (hx:∀ xs∈X,xs.length≤100)
  (q:∀ ds' X' s,X'.length=qs.length→E1.nx (b0::b1::b2::b3::some (.fz (.adr p))::fo s::b6::b7::b8::tlG (A++(gh c p ds' qs X'++T)))) :
  AH (wF (xb (lI 4)) (tgN 5) (tu (tJ (xb (lI 5)) (t3C (D.int 5))))) (tu (tJ (xb (lI 4)) (BC (iG (t3C (D.int 1)) ua)))) E1
   (b0::b1::b2::b3::some (.fz (.adr p))::fo s5::b6::b7::b8::tlG (A++(gh c p (qs.map .adr) qs X++T))):=by
 walk_at "n5"
 refine nR (pre:=[_,_,_,_,_,_,_,_,_]) rfl rfl rfl hA hc ?_
 walk_at "n5"
 refine v5 p (ee (pre:=[_,_,_,_,_,_,_,_,_]) rfl hA (gK hc)) qs.length (fun k Γ=>∃ X' s,X'.length=qs.length∧(∀ xs∈X',xs.length≤100 + k)∧Γ=b0::b1::b2::b3::some (.fz (.adr p))::fo s::b6::b7::b8::tlG (A++(gh c p (qs.map .adr) qs X'++T))) ⟨X,s5,hl,hx,rfl⟩ ?_ ?_
 ·rintro k Γ lt ⟨X',s,l',hx',rfl⟩
  have hq':qs[k]?=some qs[k]:=List.getElem?_eq_getElem lt
  have hx0:X'[k]?=some (X'[k]'(by omega)):=List.getElem?_eq_getElem (by omega)
  refine⟨qs.map .adr,.adr qs[k],ee (pre:=[_,_,_,_,_,_,_,_,_]) rfl hA (gK hc),by rw[List.getElem?_map,hq'];rfl,?_⟩
  walk_at "n5"
  refine nS (pre:=[_,_,_,_,_,_,_,_,_]) rfl rfl rfl hA hc hq' hx0 ?_
  walk_at "n5"
  refine⟨rC (pre:=[_,_,_,_,_,_,_,_,_]) rfl rfl rfl hA hc hq' hx0,?_⟩
  have lk:=hx' _ (List.mem_of_getElem? hx0)
  refine uy (pre:=[_,_,_,_,_,_,_,_,_]) rfl rfl rfl hA hc hq' hx0 (small (by omega)) ?_
  walk_at "n5"
  refine⟨_,some _,?_,?_,rfl⟩
  ·rw[List.length_set];exact l'
  ·intro xs hxs
   rcases mem_set hxs with hxs | rfl
   ·have:=hx' xs hxs;omega
   ·rw[List.length_append,List.length_singleton];omega
 ·rintro Γ ⟨X',s,l',hx',rfl⟩
  refine⟨⟨_,ee (pre:=[_,_,_,_,_,_,_,_,_]) rfl hA (gK hc),by rw[List.length_map]⟩,?_⟩
  walk_at "n5"
  refine nR (pre:=[_,_,_,_,_,_,_,_,_]) rfl rfl rfl hA hc ?_
  walk_at "n5"
  refine⟨rB (pre:=[_,_,_,_,_,_,_,_,_]) rfl rfl rfl hA hc,z1,?_⟩
  refine ux (pre:=[_,_,_,_,_,_,_,_,_]) rfl rfl rfl hA hc (small (by rw[List.length_map];omega)) ?_
  walk_at "n5"
  exact q _ _ _ l'
def uR (a:Ad):S3:=fun Γ Q=>∃ (d:D) (w:Nat) (R:List (List Int)) (p:Addr) (qs:List Addr) (xss:List (List D)),Γ=[some (.ln d),some (.fz (fD a R)),some (.fz (.adr p)),none,none,none,none,none,none]++gh .ln p (qs.map .adr) qs xss∧GR w R∧Box 3000 d∧qs.length=xss.length∧xss.length≤64∧(∀ xs∈xss,xs.length≤100)∧∀ Γ' d',Γ'[0]?=some (some (.ln d'))→Box 10000 d'→Q (.fz (.bl true)) Γ'
theorem lY (T:Txt K mg a):bK P w K mg base CX0 3 a.f_ a.fu ["_law_box_here","_law_field","_law_handed"] (spG K 3 9 (uR a)):=by
 refine okG 9 T.jd bQ fi (hbody:=fun cdv A outer s H E hr=>⟨_,_,(k_ 9 74 3 (by decide) (by decide) (iN rfl fi) (aU (i:=3) bQ.nd rfl (Or.inl rfl) (aQ (by rfl) (bv 1) T.ax T.bg (bf T) (hr.mono (by decide)) T.br)) (aQ (by rfl) (bv 1) T.ax T.bg (bf T) (hr.mono (by decide)) T.br)
   (ah (fP PassesOwn.never rfl (cD (by rfl) (bX (ab (p3v 2) (ab (p3v 3) ai)))) (a_ (i:=4) bQ.nd rfl (Or.inl rfl))
   (ah (xM (by rfl) PassesOwn.never rfl (bA (p3v 4)) (a_ (i:=5) bQ.nd rfl (Or.inl rfl))
   (aj (cK (sL (by rfl) (bA (p3v 5)) af))))
   (aj (cK (sL (by rfl) (bA (p3v 4)) (bX (ab af ai)))))))
   (ah (aU (i:=6) bQ.nd rfl (Or.inl rfl) (bX (ab (aQ (by rfl) (bv 1) T.ax T.bg (bf T) (hr.mono (by decide)) T.br) (ab (aQ (by rfl) (bv 1) T.ax T.eE (eD T) (hr.mono (by decide)) T.e7) (ab (aQ (by rfl) (bv 1) T.ax T.eR (eQ T) (hr.mono (by decide)) T.fE) ai)))))
   (ah (aU (i:=7) bQ.nd rfl (Or.inl rfl) (ar (eY (by rfl) hr) (by rfl) T.z_repr (by decide +kernel) (aa (bv 6) ag)))
   (ah (fP PassesOwn.never rfl (cV (by rfl) T.z_range (ab af ai)) (a_ (i:=8) bQ.nd rfl (Or.inl rfl))
   (ah (cK (lX (by rfl) (dM T) (hr.mono (by decide)) (by rfl) T.eF T.dm.kp T.eH (bv 0) (aQ (by rfl) (bv 1) T.ax T.eE (eD T) (hr.mono (by decide)) T.e7)))
   (ah (cK (lX (by rfl) (dM T) (hr.mono (by decide)) (by rfl) T.eF T.dm.kp T.eH (bv 0) (aQ (by rfl) (bv 1) T.ax T.eR (eQ T) (hr.mono (by decide)) T.fE)))
   (ah (cK (lX (by rfl) (dM T) (hr.mono (by decide)) (by rfl) T.eF T.dm.kp T.eH (bv 0) (Dr (aQ (by rfl) (bv 1) T.ax T.bg (bf T) (hr.mono (by decide)) T.br))))
   (aj (xK 9 139 5 (by decide) (by decide) (iN rfl fi) (by rfl) PassesOwn.never rfl (aQ (by rfl) (bv 1) T.ax T.bg (bf T) (hr.mono (by decide)) T.br) (eB (i:=5) bQ.nd rfl (Or.inl rfl))
   (aj (cK (ay (by rfl) (Cp (dM T)) (hr.mono (by decide)) (by rfl) T.eF T.dm.kp T.eH (aa (bv 0) (aa (bA (p3v 5)) ag)))))))))))
   (aj (aB (fQ (cE (by rfl) hr) (P3.opd (ar (eY (by rfl) hr) (by rfl) T.z_repr (by decide +kernel) (aa (bv 6) ag))) (bv 7) (aW _))))))))),fun Γa Q h=>?_⟩)
 obtain⟨d,w,R,p1,qs1,X1,rfl,g,hb,hl1,hn1,hx1,q⟩:=h
 have g2:=g.h2
 have gl:=dX (c:=.ln) (p:=p1) (ds:=qs1.map .adr) hl1
 refine⟨?_,?_⟩
 ·rw[List.length_append,gl]
  show 9 + _≤9 + 195
  omega
 rw[o9 (N:=["_law_box_here","_law_field","_law_handed","_law_told","_law_rows_here","_law_row","_law_owned","_law_shown","_law_turn"]) rfl (by rw[gl];omega),gl,show 195 - (qs1.length + 1)=(65 - (qs1.length + 1)) + 130 by omega,pQ]
 walk_at "n5"
 refine⟨by decide +kernel,w,R,rfl,g,?_⟩
 walk_at "n5"
 refine vi (A:=gh .ln p1 (qs1.map .adr) qs1 X1++nn (65 - (qs1.length + 1))) (T:=nn 65++tlE) (m:=65) (L:=9) (g:=65) (pre:=[_,_,_,_,_,_,_,_,_]) rfl (by rw[show nn 130++tlE=nn 65++(nn 65++tlE) from pQ (a:=65) (b:=65),List.append_assoc]) rfl (by rw[List.length_append,gl];unfold nn;rw[List.length_replicate];omega) (by decide) trivial (by rw[List.length_map];omega) fun p2 qs2 hl2=>?_
 rw[List.length_map] at hl2
 have q1:qs1.length≤64:=by omega
 have q2:qs2.length≤64:=by omega
 have bR:∀ xs∈iR R,xs.length≤100:=fun xs hxs=>by
  obtain⟨r,hr,rfl⟩:=List.mem_map.mp hxs
  rw[List.length_map,g.len r hr]
  have:=g.w2
  omega
 have lA:∀ {ds1 Y1},Y1.length=qs1.length→(gh .ln p1 ds1 qs1 Y1++nn (65 - (qs1.length + 1))).length=65:=fun {ds1 Y1} h=>by
  rw[List.length_append,dX h.symm]
  unfold nn
  rw[List.length_replicate]
  omega
 walk_at "n5"
 refine⟨z2,dk (fun k Γ=>∃ ds1 ds2 Y1 Y2 s4 s5,Y1.length=qs1.length∧Y2.length=qs2.length∧(k=0→ds1=qs1.map .adr∧∀ xs∈Y1,xs.length≤100)∧(k≤1→ds2=qs2.map .adr∧∀ xs∈Y2,xs.length≤100)∧Γ=some (.ln d)::some (.fz (fD a R))::some (.fz (.adr p1))::some (.fz (.adr p2))::fo s4::fo s5::none::none::none::tlG ((gh .ln p1 ds1 qs1 Y1++nn (65 - (qs1.length + 1)))++(gh .ow p2 ds2 qs2 Y2++(nn (65 - (qs2.length + 1))++(nn 65++tlE)))))
  ⟨_,_,X1,iR R,none,none,hl1.symm,by rw[List.length_map];exact hl2.symm,fun _=>⟨rfl,hx1⟩,fun _=>⟨rfl,bR⟩,rfl⟩ ?_ ?_⟩
 ·rintro k it Γ hd ⟨ds1,ds2,Y1,Y2,s4,s5,l1,l2,h1,h2,rfl⟩
  have k2:k=0∨k=1:=by have:=gJ hd;simp at this;omega
  rcases k2 with rfl | rfl
  ·cases hd
   obtain⟨rfl,b1⟩:=h1 rfl
   refine⟨by cases s4 <;> trivial,?_⟩
   rw[List.append_assoc]
   refine uS (A:=[]) (g:=0) rfl (.inr rfl) l1 q1 b1 fun ds' X' s l'=>?_
   exact⟨ds',ds2,X',Y2,some _,s,l',l2,(fun z=>by cases z),(fun _=>h2 (by decide)),by rw[List.append_assoc];rfl⟩
  ·cases hd
   obtain⟨rfl,b2⟩:=h2 (by decide)
   refine⟨by cases s4 <;> trivial,?_⟩
   refine uS (lA l1) (.inl rfl) l2 q2 b2 fun ds' X' s l'=>?_
   exact⟨ds1,ds',Y1,X',some _,s,l1,l',(fun z=>by cases z),(fun z=>by omega),rfl⟩
 ·rintro Γ ⟨ds1,ds2,Y1,Y2,s4,s5,l1,l2,h1,h2,rfl⟩
  obtain⟨A2,hA2,e⟩:∃ A2:G,A2.length=130∧(gh .ln p1 ds1 qs1 Y1++nn (65 - (qs1.length + 1)))++(gh .ow p2 ds2 qs2 Y2++(nn (65 - (qs2.length + 1))++(nn 65++tlE)))=A2++(nn 65++tlE):=by
   refine⟨(gh .ln p1 ds1 qs1 Y1++nn (65 - (qs1.length + 1)))++(gh .ow p2 ds2 qs2 Y2++nn (65 - (qs2.length + 1))),?_,by simp only[List.append_assoc]⟩
   rw[List.length_append,lA l1,List.length_append,dX l2.symm]
   unfold nn
   rw[List.length_replicate]
   omega
  rw[e]
  clear e
  walk_at "n5"
  refine⟨by decide +kernel,w,R,rfl,g,?_⟩
  walk_at "n5"
  refine⟨by decide +kernel,w,R,rfl,g,?_⟩
  walk_at "n5"
  refine⟨by decide +kernel,w,R,rfl,g,?_⟩
  have ok:okR (.lst [rD R,il R.flatten,.lst (pls R.length w)]):=.inl ⟨.inl rfl,.up (.lst (n:=500000) (k:=3) (l:=3) (fun x hx=>by
   simp only[List.mem_cons,List.not_mem_nil,or_false] at hx
   rcases hx with rfl | rfl | rfl
   ·exact kX g
   ·exact so g
   ·exact uT g.h2 g.w2 g.all) (by simp)) (by decide) (by decide)⟩
  walk_at "n5"
  refine⟨z3,ok,?_⟩
  walk_at "n5"
  generalize hO:[D.lst (List.map (fun ns=>D.lst (List.map D.int ns)) R),il R.flatten,D.lst (pls R.length w)]=Os at ok ⊢
  have fl:R.flatten.length≤512:=by rw[g.fll];exact g.all
  have pl:(pls R.length w).length≤512:=by rw[jL];exact g.all
  have w2:=g.w2
  refine⟨by decide,by decide,dk (fun k Γ=>∃ d' s5 s8,k≤2∧Box (3000 + 300 * (k:Int)) d'∧Γ=some (.ln d')::some (.fz (fD a R))::some (.fz (.adr p1))::some (.fz (.adr p2))::fo s4::fo s5::some (.ow (.lst Os))::some (.fz (.str (rpr (.lst Os))))::fo s8::tlG (A2++(nn 65++tlE))) ⟨d,s5,none,by decide,hb.up (by decide),rfl⟩ ?_ ?_⟩
  ·rintro k it Γ hd ⟨d',s5,s8,hk,bd,rfl⟩
   obtain⟨lk,rfl⟩:=dH hd
   have lk:k < 2:=lk
   walk_at "n5"
   refine⟨by decide +kernel,w,R,rfl,g,?_⟩
   walk_at "n5"
   refine⟨_,_,_,rfl,bd,by omega,by rw[List.length_map];omega,fun d1 ys1 b1=>?_⟩
   walk_at "n5"
   refine⟨by decide +kernel,w,R,rfl,g,?_⟩
   walk_at "n5"
   refine⟨_,_,_,rfl,b1,by omega,by omega,fun d2 ys2 b2=>?_⟩
   walk_at "n5"
   refine⟨by decide +kernel,w,R,rfl,g,?_⟩
   walk_at "n5"
   refine⟨_,_,_,rfl,b2,by omega,by rw[List.length_map];omega,fun d3 ys3 b3=>?_⟩
   walk_at "n5"
   refine⟨by decide +kernel,w,R,rfl,g,?_⟩
   walk_at "n5"
   refine v3 (L:=9) (g:=130) (A:=A2) (T:=tlE) (m:=65) (pre:=[_,_,_,_,_,_,_,_,_]) rfl rfl rfl hA2 (by decide) (by rw[List.length_map];omega) (fun j pre X=>∃ d' s5,j≤64∧Box (3006 + 300 * (k:Int) + 2 * (j:Int)) d'∧(∀ i xs,j≤i→X[i]?=some xs→xs.length≤100)∧pre=[some (.ln d'),some (.fz (fD a R)),some (.fz (.adr p1)),some (.fz (.adr p2)),fo s4,fo s5,some (.ow (.lst Os)),some (.fz (.str (rpr (.lst Os)))),some (.fz (.int (0 + k)))]) ⟨d3,s5,by decide,b3.up (by omega),fun i xs _ hi=>bR xs (List.mem_of_getElem? hi),rfl⟩ ?_ ?_
   ·rintro p qs j q0 pre' X hl hq hp hXl ⟨d4,s5,hj,bd4,hb4,rfl⟩
    have lj:j < qs.length:=gJ hq
    have hlR:qs.length=R.length:=by rw[hl,List.length_map]
    have hx0:X[j]?=some (X[j]'(by omega)):=List.getElem?_eq_getElem (by omega)
    refine⟨by cases s5 <;> trivial,?_⟩
    walk_at "n5"
    refine nS (L:=9) (pre:=[_,_,_,_,_,_,_,_,_]) rfl rfl rfl hA2 (.inl rfl) hq hx0 ?_
    obtain⟨bx,bm,bk,rfl,bb⟩:=bd4
    have ea:cC (some (Sl.ln (D.lst [D.int bx,D.int bm,D.int bk]))::some (Sl.fz (fD a R))::some (Sl.fz (D.adr p1))::some (Sl.fz (D.adr p2))::fo s4::some (Sl.fz (D.adr q0))::some (Sl.ow (D.lst Os))::some (Sl.fz (D.str (rpr (D.lst Os))))::some (Sl.fz (D.int (0 + (k:Int))))::tlG (A2++(gh Sl.ow p (List.map D.adr qs) qs X++(nn (65 - (qs.length + 1))++tlE)))) [some (.v 0),some (.v (9 + (130 + (1 + j))))]=[some (.ln (D.lst [D.int bx,D.int bm,D.int bk])),some (.ln (.cel q0 (X[j]'(by omega))))]:=by
     have e1:=xn (c:=Sl.ow) (p:=p) (ds:=qs.map .adr) (T:=nn (65 - (qs.length + 1))++tlE) (L:=9) (pre:=[some (Sl.ln (D.lst [D.int bx,D.int bm,D.int bk])),some (Sl.fz (fD a R)),some (Sl.fz (D.adr p1)),some (Sl.fz (D.adr p2)),fo s4,some (Sl.fz (D.adr q0)),some (Sl.ow (D.lst Os)),some (Sl.fz (D.str (rpr (D.lst Os)))),some (Sl.fz (D.int (0 + (k:Int))))]) rfl hA2 hq hx0
     exact congrArg (fun z=>[some (Sl.ln (D.lst [D.int bx,D.int bm,D.int bk])),ej z]) e1
    refine⟨rfl,by simp [cn];omega,?_⟩
    unfold sX Eh
    simp only[List.map_cons,List.map_nil]
    rw[ea]
    refine⟨_,_,X[j]'(by omega),rfl,⟨_,_,_,rfl,bb⟩,by omega,Nat.le_trans (hb4 j _ (Nat.le_refl _) hx0) (by decide),fun d5 ys b5=>?_⟩
    have eb:=uv (d:=D.lst [D.int bx,D.int bm,D.int bk]) (d':=d5) (p:=p) (ds:=qs.map .adr) (ys:=ys) (T:=nn (65 - (qs.length + 1))++tlE) (L:=9) (pre:=[some (Sl.fz (fD a R)),some (Sl.fz (D.adr p1)),some (Sl.fz (D.adr p2)),fo s4,some (Sl.fz (D.adr q0)),some (Sl.ow (D.lst Os)),some (Sl.fz (D.str (rpr (D.lst Os)))),some (Sl.fz (D.int (0 + (k:Int))))]) rfl hA2 hq (show j < X.length by omega)
    change ∃ (pre:G) (Y:List (List D)),pre.length=9∧Y.length=qs.length∧_∧_
    refine⟨[some (Sl.ln d5),some (Sl.fz (fD a R)),some (Sl.fz (D.adr p1)),some (Sl.fz (D.adr p2)),fo s4,some (Sl.fz (D.adr q0)),some (Sl.ow (D.lst Os)),some (Sl.fz (D.str (rpr (D.lst Os)))),some (Sl.fz (D.int (0 + (k:Int))))],X.set j ys,rfl,by rw[List.length_set];exact hXl,⟨d5,some _,by omega,b5.up (by omega),fun i xs hi hxi=>?_,rfl⟩,eb⟩
    rw[aw (by omega)] at hxi
    exact hb4 i xs (by omega) hxi
   ·rintro pre' X hp ⟨d4,s5,hj,bd4,hb4,rfl⟩
    walk_at "n5"
    rw[List.length_map] at bd4
    exact⟨d4,s5,some _,by omega,bd4.up (by omega),rfl⟩
  ·rintro Γ ⟨d',s5,s8,hk,bd,rfl⟩
   walk_at "n5"
   exact⟨ok,q _ d' rfl (bd.up (by omega))⟩
theorem pN:∀ {r:List Int},kP (r.map D.int)=true
 | []=>rfl
 | _::r=>pN (r:=r)
theorem pM:∀ {R:List (List Int)},kP (R.map tD)=true
 | []=>rfl
 | r::R=>by
  show (nol (tD r) && kP (R.map tD))=true
  rw[pM (R:=R),Bool.and_true]
  exact pN
theorem Bu {R:List (List Int)}:qV (fD a R)=true:=by
 show (nol (.tup (R.map tD)) && kP [])=true
 rw[show nol (.tup (R.map tD))=true from pM];rfl
theorem Box.nol {c:Int} {d:D} (b:Box c d):qV d=true:=by
 obtain⟨x,m,k,rfl,_⟩:=b;rfl
theorem qy:rpr (D.lst [D.lst [D.int 1,D.int 7],D.lst [D.int 1,D.int 2]])=Str.ofString "[[1, 7], [1, 2]]":=by decide +kernel
theorem oC {a b c d:Int} (h:Fig [a,b]) (h':Fig [c,d]):GR 2 [[a,b],[c,d]]:=⟨by simp,by simp,by decide,by decide,by simp,fun r hr=>by
 simp only[List.mem_cons,List.not_mem_nil,or_false] at hr
 rcases hr with rfl | rfl <;> rfl,fun r hr=>by
 simp only[List.mem_cons,List.not_mem_nil,or_false] at hr
 rcases hr with rfl | rfl
 ·exact h
 ·exact h'⟩
theorem yQ {a b:Int} (h:-1000000000000000 < a∧a < 1000000000000000) (h':-1000000000000000 < b∧b < 1000000000000000):Fig [a,b]:=fun n hn=>by
 simp only[List.mem_cons,List.not_mem_nil,or_false] at hn
 rcases hn with rfl | rfl
 ·exact h
 ·exact h'
theorem wu {a b:Int} (h:Fig [a,b]):GR 2 [[a,b]]:=⟨by simp,by simp,by decide,by decide,by simp,fun r hr=>by
 simp only[List.mem_cons,List.not_mem_nil,or_false] at hr
 rcases hr with rfl;rfl,fun r hr=>by
 simp only[List.mem_cons,List.not_mem_nil,or_false] at hr
 rcases hr with rfl
 exact h⟩
theorem ym (T:Txt K mg a):bK P w K mg base CX0 9 a.tm a.oG ["_law_script"] (sp3 K 1 (zK 63)):=by
 refine ok3 T.EH fO (hbody:=fun cdv A outer s H E hr=>⟨_,_,(ah (fP PassesOwn.never rfl (cV (by rfl) T.z_range (ab (ar (Ae rfl) (by rfl) T.z_max (by decide +kernel) (aa (P3.opd af) (aa (P3.opd (ar (Ac rfl) (by rfl) T.z_min (by decide +kernel) (aa (P3.opd (ar (dF (by rfl)) (by rfl) T.z_len (by decide +kernel) (aa (bv 0) ag))) (aa (P3.opd af) ag)))) ag))) ai)) (a_ (i:=1) fO.nd rfl (Or.inl rfl))
   (ah (aU (i:=2) fO.nd rfl (Or.inl rfl) (ay (by rfl) (pJ T) (hr.mono (by decide)) (by rfl) T.q9 T.mB.kp T.rW (aa (P3.opd (ay (by rfl) (oq T) (hr.mono (by decide)) (by rfl) T.pY T.kK.kp T.ql (aa (P3.opd (p3v 0)) (aa (P3.opd (p3v 1)) ag)))) ag)))
   (ah (aU (i:=3) fO.nd rfl (Or.inl rfl) (ay (by rfl) (om T) (hr.mono (by decide)) (by rfl) T.pW T.kI.kp T.qj (aa (bv 2) ag)))
   (ah (aU (i:=4) fO.nd rfl (Or.inl rfl) (nk (ay (by rfl) (oo T) (hr.mono (by decide)) (by rfl) T.pX T.kJ.kp T.qk (aa (bv 2) (aa (P3.opd (p3v 3)) ag)))))
   (sA (k_ 10 10 5 (by decide) (by decide) (iN rfl A5) (gC (i:=5) fO.nd rfl rfl rfl (cD (by rfl) (p3v 4)) iQ (fun _ _ _ _ _=>(a_ (i:=0) iQ.nd rfl (Or.inl rfl))) (fun _ _ _ _ _=>(dE (km (by rfl)) (by rfl) T.z_list (by decide +kernel) (aa (bv 0) ag)))) (lV rfl (cD (by rfl) (p3v 4)) iQ (fun _ _ _ _ _=>(a_ (i:=0) iQ.nd rfl (Or.inl rfl))) (fun _ _ _ _ _=>(dE (km (by rfl)) (by rfl) T.z_list (by decide +kernel) (aa (bv 0) ag))))
   (ah (aU (i:=6) fO.nd rfl (Or.inl rfl) (nk (Dq 5 10 (iO T.mk_Field (bU T) (hr.mono (by decide)) (by rfl) T.eN T.cm (ab (p3v 5) ai)))))
   (ah (aU (i:=7) fO.nd rfl (Or.inl rfl) (nk (iO T.mk_Field (bU T) (hr.mono (by decide)) (by rfl) T.eN T.cm (ab (bX (ab (bX (ab af (ab (jh (P3.opd af)) ai))) ai)) ai))))
   (ah (bI (P3W.pt (dr (aZ (aY (ay (by rfl) (iV T) (hr.mono (by decide)) (by rfl) T.jk T.fF.kp T.jz (aa (bv 2) (aa (P3.opd (p3v 6)) (aa (P3.opd (p3v 4)) ag)))))) (cL (aZ (aY (ay (by rfl) (ik T) (hr.mono (by decide)) (by rfl) T.iW T.eV.kp T.i4 (aa (P3.opd (p3v 6)) (aa (P3.opd (p3v 3)) ag)))))))) (aj (aB cq)) bh)
   (ah (bI (aZ (aY (ay (by rfl) (de T) (hr.mono (by decide)) (by rfl) T.dU T.cX.kp T.d_ (aa (P3.opd (p3v 6)) (aa (P3.opd (p3v 4)) ag))))) (aj (aB cq)) bh)
   (ah (aU (i:=8) fO.nd rfl (Or.inl rfl) (nk (bX (ab af (ab af ai)))))
   (ah (aU (i:=9) fO.nd rfl (Or.inl rfl) (nk (iO T.mk_Field (bU T) (hr.mono (by decide)) (by rfl) T.eN T.cm (ab (bX (ab (p3v 8) (ab (p3v 8) ai))) ai))))
   (ah (bI (P3W.pt (dr (bj (iI (by rfl) hr) (P3.opd (ar (eY (by rfl) hr) (by rfl) T.z_repr (by decide +kernel) (aa (P3.opd (aQ (by rfl) (P3.opd (dJ (by rfl) (bv 9) T.ax T.eM (eL T) (hr.mono (by decide)) T.eU (aa (P3.opd (bu (ab af (ab af ai)))) (aa (P3.opd af) ag)))) T.ax T.bg (bf T) (hr.mono (by decide)) T.br)) ag))) (P3.opd oi) (aW _)) (cL (aZ (aY (ay (by rfl) (de T) (hr.mono (by decide)) (by rfl) T.dU T.cX.kp T.d_ (aa (P3.opd (p3v 9)) (aa (P3.opd (bX (ab (p3v 8) (ab (p3v 8) ai)))) ag)))))))) (aj (aB cq)) bh)
   (ah (bI (aZ (aY (vH (lY T) (hr.mono (by decide)) (by rfl) T.mP T.jd.kp T.mU (aa (bv 2) (aa (P3.opd (p3v 6)) (aa (P3.opd (p3v 5)) ag)))))) (aj (aB cq)) bh)
   (aj (bI (P3W.pt (dr (aZ (aY (ay (by rfl) (de T) (hr.mono (by decide)) (by rfl) T.dU T.cX.kp T.d_ (aa (P3.opd (p3v 6)) (aa (P3.opd (p3v 4)) ag))))) (cL (aZ (aY (ay (by rfl) (de T) (hr.mono (by decide)) (by rfl) T.dU T.cX.kp T.d_ (aa (P3.opd (p3v 7)) (aa (P3.opd (bX (ab (bX (ab af (ab (jh (P3.opd af)) ai))) ai))) ag)))))))) (aj (aB cq)) bh))))))))))))))))
   (aj (aB cq))),fun Γa Q h hl=>?_⟩)
 obtain⟨ns,rfl,hn,q⟩:=h
 rw[AD]
 walk_at "n5"
 have m1:fmax 2 (fmin (ns.length:Int) 6)≤6:=by unfold fmax fmin;split <;> split <;> omega
 have m2:2≤fmax 2 (fmin (ns.length:Int) 6):=by unfold fmax fmin;split <;> split <;> omega
 refine⟨by omega,by omega,dk (fun k Γ=>∃ s1 s2 s3 s4 s5 s6 s7 s8 s9,Γ=some (.fz (.scr ns))::fo s1::fw s2::fo s3::fo s4::fo s5::fo s6::fo s7::fo s8::fo s9::tlG (nn 65++tlE)) ⟨none,none,none,none,none,none,none,none,none,rfl⟩ ?_ ?_⟩
 ·rintro k x Γ hd ⟨s1,s2,s3,s4,s5,s6,s7,s8,s9,rfl⟩
  obtain⟨lk,rfl⟩:=dH hd
  walk_at "n5"
  refine⟨ns,_,rfl,by omega,fun r0=>?_⟩
  walk_at "n5"
  refine⟨_,rfl,fun d0 b0=>?_⟩
  walk_at "n5"
  refine⟨_,rfl,b0,fun h w d1 sz b1=>?_⟩
  walk_at "n5"
  refine⟨_,h,w,rfl,b1,sz,fun R d2 g rh b2=>?_⟩
  have g2:=g.h2
  walk_at "n5"
  refine r_ Wk.refl ?_
  walk_at "n5"
  refine⟨small (by rw[List.length_map];omega),kh (fun k ys Γc=>ys=iR (R.take k)∧∃ s,Γc=[fo s]) ⟨rfl,none,rfl⟩ ?_ ?_⟩
  ·rintro j d ys Γc hd hj ⟨rfl,s,rfl⟩
   obtain⟨r,hr,rfl⟩:=dc hd
   walk_at "n5"
   exact⟨by rw[take_snoc hr,show iR (R.take j++[r])=iR (R.take j)++iR [r] from List.map_append];rfl,some _,rfl⟩
  ·rintro ys Γc hj ⟨rfl,s,rfl⟩
   rw[List.take_of_length_le (by rw[List.length_map];exact Nat.le_refl _)]
   walk_at "n5"
   refine n8 (L:=10) (pre:=[_,_,_,_,_,_,_,_,_,_]) (T:=tlE) (m:=65) rfl rfl (by decide) (by cases s5 <;> trivial) (by rw[List.length_map];omega) fun p qs hl=>?_
   have hl':qs.length=R.length:=by rw[hl,List.length_map]
   walk_at "n5"
   refine Au (L0:=10) (pre:=[_,_,_,_,_,_,_,_,_,_]) rfl rfl (by decide) rfl hl ?_ ?_
   ·intro j d hj
    match j,hj with
    | 0,hj=>rcases hj with hj | hj <;> cases hj
    | 1,hj=>rcases hj with hj | hj <;> cases hj
    | 2,hj=>rcases hj with hj | hj <;> cases hj;exact b2.nol
    | 3,hj=>rcases hj with hj | hj <;> cases hj
    | 4,hj=>rcases hj with hj | hj <;> cases hj
    | 5,hj=>rcases hj with hj | hj <;> cases hj
    | 6,hj=>rcases hj with hj | hj <;> cases s6 <;> cases hj
    | 7,hj=>rcases hj with hj | hj <;> cases s7 <;> cases hj
    | 8,hj=>rcases hj with hj | hj <;> cases s8 <;> cases hj
    | 9,hj=>rcases hj with hj | hj <;> cases s9 <;> cases hj
    | n + 10,hj=>rcases hj with hj | hj <;> simp at hj
   walk_at "n5"
   refine⟨_,R,rfl,g,?_⟩
   walk_at "n5"
   obtain⟨a1,a2,a3,a4,a5⟩:=id sz
   have ep:pD h w=pD (R.length:Int) (w.toNat:Int):=by rw[rh,Int.toNat_of_nonneg (by omega),Int.toNat_of_nonneg (by omega)]
   have f12:Fig [1,2]:=yQ ⟨by decide,by decide⟩ ⟨by decide,by decide⟩
   have f17:Fig [1,7]:=yQ ⟨by decide,by decide⟩ ⟨by decide,by decide⟩
   refine⟨Bu (a:=a),z2,z1,2,[[7,-7]],rfl,wu (yQ ⟨by decide,by decide⟩ ⟨by decide,by decide⟩),?_⟩
   walk_at "n5"
   refine⟨d2,w.toNat,R,rfl,g,b2,fun d3 b3=>?_⟩
   walk_at "n5"
   refine⟨w.toNat,R,by rw[ep],g,?_⟩
   walk_at "n5"
   refine⟨w.toNat,R,rfl,g,?_⟩
   walk_at "n5"
   refine⟨z2,z2,2,[[1,2],[1,2]],rfl,oC f12 f12,?_⟩
   walk_at "n5"
   refine⟨by decide +kernel,z2,2,[[1,2],[1,2]],0,1,[1,2],7,rfl,oC f12 f12,rfl,by decide,⟨by decide,by decide⟩,?_⟩
   walk_at "n5"
   have g17:GR 2 [[1,7],[1,2]]:=oC f17 f12
   refine⟨by decide +kernel,2,[[1,7],[1,2]],rfl,g17,?_⟩
   walk_at "n5"
   refine⟨.inl ⟨.inl rfl,big (kX g17)⟩,?_⟩
   rw[qy]
   walk_at "n5"
   refine⟨z2,2,[[1,2],[1,2]],rfl,oC f12 f12,?_⟩
   walk_at "n5"
   refine w4 (L0:=10) (pre:=[_,_,_,_,_,_,_,_,_,_]) rfl rfl hl (by intro i hi;simp [cn] at hi;omega) (by simp [cn]) ?_
   refine⟨d3,w.toNat,R,p,qs,iR R,rfl,g,b3.up (by decide),hl,by rw[List.length_map];exact g2,fun xs hxs=>?_,fun Γ' d4 h4 b4=>?_⟩
   ·obtain⟨r,hr,rfl⟩:=List.mem_map.mp hxs
    rw[List.length_map,g.len r hr]
    have:=g.w2
    omega
   obtain⟨cs,rfl⟩:∃ cs,Γ'=some (.ln d4)::cs:=by
    cases Γ' with
    | nil=>simp at h4
    | cons s cs=>simp at h4;subst h4;exact⟨cs,rfl⟩
   rw[ou,show qs.length + 1 + (65 - (qs.length + 1))=65 by omega]
   walk_at "n5"
   refine⟨w.toNat,R,rfl,g,?_⟩
   walk_at "n5"
   refine⟨z2,z1,2,[[7,-7]],rfl,wu (yQ ⟨by decide,by decide⟩ ⟨by decide,by decide⟩),?_⟩
   walk_at "n5"
   exact⟨some _,some _,some _,some _,some _,some _,some _,some _,some _,rfl⟩
 ·rintro Γ ⟨s1,s2,s3,s4,s5,s6,s7,s8,s9,rfl⟩
  walk_at "n5"
  exact q _
def nX (K:PySem.W.Frag):Sp:=fun vs H Q _=>∃ (p:Addr) (ns:List Int),vs=[.ref p]∧SqL K H p (ns.map V.int)∧ns.length≤63∧∀ H',Q (.bl true) H'
theorem Bp (T:Txt K mg a):bK P w K mg base CX0 9 a.tm a.oG ["_law_script"] (nX K):=BE (ym T)
end
theorem all_mk {l:PySem.W.OpenLaw} {w:World} {K:PySem.W.Frag} {h:Heap} {mg:Str→Option Value} {fa:Addr} (X:K.In h) (G:h.Ns mainGlobals mg) (hfa:mg "law"=some (.ref fa))
  {az:Addr}
  {f0:Addr} {od0 an0:Option Addr} {sl0:Array (Option Value)} {oc0 kV0 dc0 pm0 cd0 ct0:Value}
  {f1:Addr} {od1 an1:Option Addr} {sl1:Array (Option Value)} {oc1 kV1 dc1 pm1 cd1 ct1:Value}
  {f2:Addr} {od2 an2:Option Addr} {sl2:Array (Option Value)} {oc2 kV2 dc2 pm2 cd2 ct2:Value}
  {f3:Addr} {od3 an3:Option Addr} {sl3:Array (Option Value)} {oc3 kV3 dc3 pm3 cd3 ct3:Value}
  {f4:Addr} {od4 an4:Option Addr} {sl4:Array (Option Value)} {oc4 kV4 dc4 pm4 cd4 ct4:Value}
  {f5:Addr} {od5 an5:Option Addr} {sl5:Array (Option Value)} {oc5 kV5 dc5 pm5 cd5 ct5:Value}
  {f6:Addr} {od6 an6:Option Addr} {sl6:Array (Option Value)} {oc6 kV6 dc6 pm6 cd6 ct6:Value}
  {f7:Addr} {od7 an7:Option Addr} {sl7:Array (Option Value)} {oc7 kV7 dc7 pm7 cd7 ct7:Value}
  {f8:Addr} {od8 an8:Option Addr} {sl8:Array (Option Value)} {oc8 kV8 dc8 pm8 cd8 ct8:Value}
  {f9:Addr} {od9 an9:Option Addr} {sl9:Array (Option Value)} {oc9 kV9 dc9 pm9 cd9 ct9:Value}
  {f10:Addr} {od10 an10:Option Addr} {sl10:Array (Option Value)} {oc10 kV10 dc10 pm10 cd10 ct10:Value}
  {f11:Addr} {od11 an11:Option Addr} {sl11:Array (Option Value)} {oc11 kV11 dc11 pm11 cd11 ct11:Value}
  {f12:Addr} {od12 an12:Option Addr} {sl12:Array (Option Value)} {oc12 kV12 dc12 pm12 cd12 ct12:Value}
  {f13:Addr} {od13 an13:Option Addr} {sl13:Array (Option Value)} {oc13 kV13 dc13 pm13 cd13 ct13:Value}
  {f14:Addr} {od14 an14:Option Addr} {sl14:Array (Option Value)} {oc14 kV14 dc14 pm14 cd14 ct14:Value}
  {f15:Addr} {od15 an15:Option Addr} {sl15:Array (Option Value)} {oc15 kV15 dc15 pm15 cd15 ct15:Value}
  {f16:Addr} {od16 an16:Option Addr} {sl16:Array (Option Value)} {oc16 kV16 dc16 pm16 cd16 ct16:Value}
  {f17:Addr} {od17 an17:Option Addr} {sl17:Array (Option Value)} {oc17 kV17 dc17 pm17 cd17 ct17:Value}
  {f18:Addr} {od18 an18:Option Addr} {sl18:Array (Option Value)} {oc18 kV18 dc18 pm18 cd18 ct18:Value}
  {f19:Addr} {od19 an19:Option Addr} {sl19:Array (Option Value)} {oc19 kV19 dc19 pm19 cd19 ct19:Value}
  {f20:Addr} {od20 an20:Option Addr} {sl20:Array (Option Value)} {oc20 kV20 dc20 pm20 cd20 ct20:Value}
  {f21:Addr} {od21 an21:Option Addr} {sl21:Array (Option Value)} {oc21 kV21 dc21 pm21 cd21 ct21:Value}
  {f22:Addr} {od22 an22:Option Addr} {sl22:Array (Option Value)} {oc22 kV22 dc22 pm22 cd22 ct22:Value}
  {f23:Addr} {od23 an23:Option Addr} {sl23:Array (Option Value)} {oc23 kV23 dc23 pm23 cd23 ct23:Value}
  {f24:Addr} {od24 an24:Option Addr} {sl24:Array (Option Value)} {oc24 kV24 dc24 pm24 cd24 ct24:Value}
  {f25:Addr} {od25 an25:Option Addr} {sl25:Array (Option Value)} {oc25 kV25 dc25 pm25 cd25 ct25:Value}
  {f26:Addr} {od26 an26:Option Addr} {sl26:Array (Option Value)} {oc26 kV26 dc26 pm26 cd26 ct26:Value}
  {f27:Addr} {od27 an27:Option Addr} {sl27:Array (Option Value)} {oc27 kV27 dc27 pm27 cd27 ct27:Value}
  {f28:Addr} {od28 an28:Option Addr} {sl28:Array (Option Value)} {oc28 kV28 dc28 pm28 cd28 ct28:Value}
  {f29:Addr} {od29 an29:Option Addr} {sl29:Array (Option Value)} {oc29 kV29 dc29 pm29 cd29 ct29:Value}
  {t_MOST_NUMBER:Tok}
  {t_MOST_PLACES:Tok}
  {t_MOST_SIDE:Tok}
  (aC_Field:PySem.W.nsIn K mainGlobals "Field"=some (some (.ref az)))
  (pg_Field:PySem.W.plainGet K az Str.empty=true)
  (hd_Field:PySem.W.hasDictIn K az=true)
  (po_Field:PySem.W.plainOver K az=true)
  (sa_Field:PySem.W.findIn K (.ref az) "__setattr__"=some (some (.builtin "object.__setattr__")))
  (mk_Field:PySem.W.makesIn K az=true)
  (kc_Field:PySem.W.keepIn K (.ref az)=true)
  (n_Field_grid:PySem.W.findIn K (.ref az) "grid"=some none)
  (a0:PySem.W.nsIn K mainGlobals "is_whole"=some (some (.ref f0)))
  (l0:K.lookup f0=some ⟨oc0,od0,.func (PySem.W.fnOf "is_whole" "is_whole" (aq cz) (ao cz) (ae cz) .none kV0 dc0 pm0 an0 cd0 ct0),sl0⟩)
  (c0:PySem.W.codeIn K cd0 "is_whole"=true)
  (k0:PySem.W.keepIn K (.ref f0)=true)
  (a1:PySem.W.nsIn K mainGlobals "is_number"=some (some (.ref f1)))
  (l1:K.lookup f1=some ⟨oc1,od1,.func (PySem.W.fnOf "is_number" "is_number" (aq b_) (ao b_) (ae b_) .none kV1 dc1 pm1 an1 cd1 ct1),sl1⟩)
  (c1:PySem.W.codeIn K cd1 "is_number"=true)
  (k1:PySem.W.keepIn K (.ref f1)=true)
  (a2:PySem.W.nsIn K mainGlobals "is_row"=some (some (.ref f2)))
  (l2:K.lookup f2=some ⟨oc2,od2,.func (PySem.W.fnOf "is_row" "is_row" (aq cN) (ao cN) (ae cN) .none kV2 dc2 pm2 an2 cd2 ct2),sl2⟩)
  (c2:PySem.W.codeIn K cd2 "is_row"=true)
  (k2:PySem.W.keepIn K (.ref f2)=true)
  (a3:PySem.W.nsIn K mainGlobals "is_size"=some (some (.ref f3)))
  (l3:K.lookup f3=some ⟨oc3,od3,.func (PySem.W.fnOf "is_size" "is_size" (aq cG) (ao cG) (ae cG) .none kV3 dc3 pm3 an3 cd3 ct3),sl3⟩)
  (c3:PySem.W.codeIn K cd3 "is_size"=true)
  (k3:PySem.W.keepIn K (.ref f3)=true)
  (a4:PySem.W.nsIn K mainGlobals "is_place_within"=some (some (.ref f4)))
  (l4:K.lookup f4=some ⟨oc4,od4,.func (PySem.W.fnOf "is_place_within" "is_place_within" (aq aR) (ao aR) (ae aR) .none kV4 dc4 pm4 an4 cd4 ct4),sl4⟩)
  (c4:PySem.W.codeIn K cd4 "is_place_within"=true)
  (k4:PySem.W.keepIn K (.ref f4)=true)
  (a5:PySem.W.nsIn K mainGlobals "are_rows"=some (some (.ref f5)))
  (l5:K.lookup f5=some ⟨oc5,od5,.func (PySem.W.fnOf "are_rows" "are_rows" (aq bW) (ao bW) (ae bW) .none kV5 dc5 pm5 an5 cd5 ct5),sl5⟩)
  (c5:PySem.W.codeIn K cd5 "are_rows"=true)
  (k5:PySem.W.keepIn K (.ref f5)=true)
  (a6:PySem.W.findIn K (.ref az) "__init__"=some (some (.ref f6)))
  (i6:PySem.W.isFn K (.ref f6)=true)
  (l6:K.lookup f6=some ⟨oc6,od6,.func (PySem.W.fnOf "__init__" "Field.__init__" (aq aP) (ao aP) (ae aP) .none kV6 dc6 pm6 an6 cd6 ct6),sl6⟩)
  (c6:PySem.W.codeIn K cd6 "Field.__init__"=true)
  (k6:PySem.W.keepIn K (.ref f6)=true)
  (a7:PySem.W.findIn K (.ref az) "height"=some (some (.ref f7)))
  (i7:PySem.W.isFn K (.ref f7)=true)
  (l7:K.lookup f7=some ⟨oc7,od7,.func (PySem.W.fnOf "height" "Field.height" (aq bq) (ao bq) (ae bq) .none kV7 dc7 pm7 an7 cd7 ct7),sl7⟩)
  (c7:PySem.W.codeIn K cd7 "Field.height"=true)
  (k7:PySem.W.keepIn K (.ref f7)=true)
  (a8:PySem.W.findIn K (.ref az) "width"=some (some (.ref f8)))
  (i8:PySem.W.isFn K (.ref f8)=true)
  (l8:K.lookup f8=some ⟨oc8,od8,.func (PySem.W.fnOf "width" "Field.width" (aq bD) (ao bD) (ae bD) .none kV8 dc8 pm8 an8 cd8 ct8),sl8⟩)
  (c8:PySem.W.codeIn K cd8 "Field.width"=true)
  (k8:PySem.W.keepIn K (.ref f8)=true)
  (a9:PySem.W.findIn K (.ref az) "rows"=some (some (.ref f9)))
  (i9:PySem.W.isFn K (.ref f9)=true)
  (l9:K.lookup f9=some ⟨oc9,od9,.func (PySem.W.fnOf "rows" "Field.rows" (aq bF) (ao bF) (ae bF) .none kV9 dc9 pm9 an9 cd9 ct9),sl9⟩)
  (c9:PySem.W.codeIn K cd9 "Field.rows"=true)
  (k9:PySem.W.keepIn K (.ref f9)=true)
  (a10:PySem.W.findIn K (.ref az) "flat"=some (some (.ref f10)))
  (i10:PySem.W.isFn K (.ref f10)=true)
  (l10:K.lookup f10=some ⟨oc10,od10,.func (PySem.W.fnOf "flat" "Field.flat" (aq bH) (ao bH) (ae bH) .none kV10 dc10 pm10 an10 cd10 ct10),sl10⟩)
  (c10:PySem.W.codeIn K cd10 "Field.flat"=true)
  (k10:PySem.W.keepIn K (.ref f10)=true)
  (a11:PySem.W.findIn K (.ref az) "places"=some (some (.ref f11)))
  (i11:PySem.W.isFn K (.ref f11)=true)
  (l11:K.lookup f11=some ⟨oc11,od11,.func (PySem.W.fnOf "places" "Field.places" (aq ba) (ao ba) (ae ba) .none kV11 dc11 pm11 an11 cd11 ct11),sl11⟩)
  (c11:PySem.W.codeIn K cd11 "Field.places"=true)
  (k11:PySem.W.keepIn K (.ref f11)=true)
  (a12:PySem.W.findIn K (.ref az) "is_place"=some (some (.ref f12)))
  (i12:PySem.W.isFn K (.ref f12)=true)
  (l12:K.lookup f12=some ⟨oc12,od12,.func (PySem.W.fnOf "is_place" "Field.is_place" (aq aV) (ao aV) (ae aV) .none kV12 dc12 pm12 an12 cd12 ct12),sl12⟩)
  (c12:PySem.W.codeIn K cd12 "Field.is_place"=true)
  (k12:PySem.W.keepIn K (.ref f12)=true)
  (a13:PySem.W.findIn K (.ref az) "at"=some (some (.ref f13)))
  (i13:PySem.W.isFn K (.ref f13)=true)
  (l13:K.lookup f13=some ⟨oc13,od13,.func (PySem.W.fnOf "at" "Field.at" (aq cB) (ao cB) (ae cB) .none kV13 dc13 pm13 an13 cd13 ct13),sl13⟩)
  (c13:PySem.W.codeIn K cd13 "Field.at"=true)
  (k13:PySem.W.keepIn K (.ref f13)=true)
  (a14:PySem.W.findIn K (.ref az) "with_number"=some (some (.ref f14)))
  (i14:PySem.W.isFn K (.ref f14)=true)
  (l14:K.lookup f14=some ⟨oc14,od14,.func (PySem.W.fnOf "with_number" "Field.with_number" (aq aG) (ao aG) (ae aG) .none kV14 dc14 pm14 an14 cd14 ct14),sl14⟩)
  (c14:PySem.W.codeIn K cd14 "Field.with_number"=true)
  (k14:PySem.W.keepIn K (.ref f14)=true)
  (a15:PySem.W.findIn K (.ref az) "same"=some (some (.ref f15)))
  (i15:PySem.W.isFn K (.ref f15)=true)
  (l15:K.lookup f15=some ⟨oc15,od15,.func (PySem.W.fnOf "same" "Field.same" (aq bP) (ao bP) (ae bP) .none kV15 dc15 pm15 an15 cd15 ct15),sl15⟩)
  (c15:PySem.W.codeIn K cd15 "Field.same"=true)
  (k15:PySem.W.keepIn K (.ref f15)=true)
  (a16:PySem.W.nsIn K mainGlobals "_law_cell"=some (some (.ref f16)))
  (l16:K.lookup f16=some ⟨oc16,od16,.func (PySem.W.fnOf "_law_cell" "_law_cell" (aq cf) (ao cf) (ae cf) .none kV16 dc16 pm16 an16 cd16 ct16),sl16⟩)
  (c16:PySem.W.codeIn K cd16 "_law_cell"=true)
  (k16:PySem.W.keepIn K (.ref f16)=true)
  (a17:PySem.W.nsIn K mainGlobals "_law_box"=some (some (.ref f17)))
  (l17:K.lookup f17=some ⟨oc17,od17,.func (PySem.W.fnOf "_law_box" "_law_box" (aq cA) (ao cA) (ae cA) .none kV17 dc17 pm17 an17 cd17 ct17),sl17⟩)
  (c17:PySem.W.codeIn K cd17 "_law_box"=true)
  (k17:PySem.W.keepIn K (.ref f17)=true)
  (a18:PySem.W.nsIn K mainGlobals "_law_take"=some (some (.ref f18)))
  (l18:K.lookup f18=some ⟨oc18,od18,.func (PySem.W.fnOf "_law_take" "_law_take" (aq cb) (ao cb) (ae cb) .none kV18 dc18 pm18 an18 cd18 ct18),sl18⟩)
  (c18:PySem.W.codeIn K cd18 "_law_take"=true)
  (k18:PySem.W.keepIn K (.ref f18)=true)
  (a19:PySem.W.nsIn K mainGlobals "_law_number"=some (some (.ref f19)))
  (l19:K.lookup f19=some ⟨oc19,od19,.func (PySem.W.fnOf "_law_number" "_law_number" (aq bC) (ao bC) (ae bC) .none kV19 dc19 pm19 an19 cd19 ct19),sl19⟩)
  (c19:PySem.W.codeIn K cd19 "_law_number"=true)
  (k19:PySem.W.keepIn K (.ref f19)=true)
  (a20:PySem.W.nsIn K mainGlobals "_law_whole"=some (some (.ref f20)))
  (l20:K.lookup f20=some ⟨oc20,od20,.func (PySem.W.fnOf "_law_whole" "_law_whole" (aq bN) (ao bN) (ae bN) .none kV20 dc20 pm20 an20 cd20 ct20),sl20⟩)
  (c20:PySem.W.codeIn K cd20 "_law_whole"=true)
  (k20:PySem.W.keepIn K (.ref f20)=true)
  (a21:PySem.W.nsIn K mainGlobals "_law_size"=some (some (.ref f21)))
  (l21:K.lookup f21=some ⟨oc21,od21,.func (PySem.W.fnOf "_law_size" "_law_size" (aq cc) (ao cc) (ae cc) .none kV21 dc21 pm21 an21 cd21 ct21),sl21⟩)
  (c21:PySem.W.codeIn K cd21 "_law_size"=true)
  (k21:PySem.W.keepIn K (.ref f21)=true)
  (a22:PySem.W.nsIn K mainGlobals "_law_rows"=some (some (.ref f22)))
  (l22:K.lookup f22=some ⟨oc22,od22,.func (PySem.W.fnOf "_law_rows" "_law_rows" (aq bz) (ao bz) (ae bz) .none kV22 dc22 pm22 an22 cd22 ct22),sl22⟩)
  (c22:PySem.W.codeIn K cd22 "_law_rows"=true)
  (k22:PySem.W.keepIn K (.ref f22)=true)
  (a23:PySem.W.nsIn K mainGlobals "_law_alike"=some (some (.ref f23)))
  (l23:K.lookup f23=some ⟨oc23,od23,.func (PySem.W.fnOf "_law_alike" "_law_alike" (aq bO) (ao bO) (ae bO) .none kV23 dc23 pm23 an23 cd23 ct23),sl23⟩)
  (c23:PySem.W.codeIn K cd23 "_law_alike"=true)
  (k23:PySem.W.keepIn K (.ref f23)=true)
  (a24:PySem.W.nsIn K mainGlobals "_law_tells"=some (some (.ref f24)))
  (l24:K.lookup f24=some ⟨oc24,od24,.func (PySem.W.fnOf "_law_tells" "_law_tells" (aq bE) (ao bE) (ae bE) .none kV24 dc24 pm24 an24 cd24 ct24),sl24⟩)
  (c24:PySem.W.codeIn K cd24 "_law_tells"=true)
  (k24:PySem.W.keepIn K (.ref f24)=true)
  (a25:PySem.W.nsIn K mainGlobals "_law_places_right"=some (some (.ref f25)))
  (l25:K.lookup f25=some ⟨oc25,od25,.func (PySem.W.fnOf "_law_places_right" "_law_places_right" (aq aJ) (ao aJ) (ae aJ) .none kV25 dc25 pm25 an25 cd25 ct25),sl25⟩)
  (c25:PySem.W.codeIn K cd25 "_law_places_right"=true)
  (k25:PySem.W.keepIn K (.ref f25)=true)
  (a26:PySem.W.nsIn K mainGlobals "_law_other_right"=some (some (.ref f26)))
  (l26:K.lookup f26=some ⟨oc26,od26,.func (PySem.W.fnOf "_law_other_right" "_law_other_right" (aq aF) (ao aF) (ae aF) .none kV26 dc26 pm26 an26 cd26 ct26),sl26⟩)
  (c26:PySem.W.codeIn K cd26 "_law_other_right"=true)
  (k26:PySem.W.keepIn K (.ref f26)=true)
  (a27:PySem.W.nsIn K mainGlobals "_law_turned"=some (some (.ref f27)))
  (l27:K.lookup f27=some ⟨oc27,od27,.func (PySem.W.fnOf "_law_turned" "_law_turned" (aq bB) (ao bB) (ae bB) .none kV27 dc27 pm27 an27 cd27 ct27),sl27⟩)
  (c27:PySem.W.codeIn K cd27 "_law_turned"=true)
  (k27:PySem.W.keepIn K (.ref f27)=true)
  (a28:PySem.W.nsIn K mainGlobals "_law_shaken"=some (some (.ref f28)))
  (l28:K.lookup f28=some ⟨oc28,od28,.func (PySem.W.fnOf "_law_shaken" "_law_shaken" (aq bp) (ao bp) (ae bp) .none kV28 dc28 pm28 an28 cd28 ct28),sl28⟩)
  (c28:PySem.W.codeIn K cd28 "_law_shaken"=true)
  (k28:PySem.W.keepIn K (.ref f28)=true)
  (a29:PySem.W.nsIn K mainGlobals "law"=some (some (.ref f29)))
  (l29:K.lookup f29=some ⟨oc29,od29,.func (PySem.W.fnOf "law" "law" (aq gY) (ao gY) (ae gY) .none kV29 dc29 pm29 an29 cd29 ct29),sl29⟩)
  (c29:PySem.W.codeIn K cd29 "law"=true)
  (k29:PySem.W.keepIn K (.ref f29)=true)
  (q_MOST_NUMBER:PySem.W.nsIn K mainGlobals "MOST_NUMBER"=some (some (.int 999999999999999 t_MOST_NUMBER)))
  (q_MOST_PLACES:PySem.W.nsIn K mainGlobals "MOST_PLACES"=some (some (.int 512 t_MOST_PLACES)))
  (q_MOST_SIDE:PySem.W.nsIn K mainGlobals "MOST_SIDE"=some (some (.int 64 t_MOST_SIDE)))
  (oc_Field:PySem.W.findIn K (.ref az) "__class__"=some (some (.builtin "object.__class__")))
  (og_Field:PySem.W.specialIn K (.builtin "object.__class__") "__get__"=some (some (.builtin "getset_descriptor.__get__")))
  (ot_Field:PySem.W.takesIn K (.builtin "object.__class__")=some true)
  (ob_Field:PySem.W.mroIn K az (.type "object")=some true)
  (y_oo_Field:PySem.W.kitOne K (.ref az) (.ref az)=some true)
  (y_ob_Field:PySem.W.kitOne K (.type "bool") (.ref az)=some false)
  (y_oi_Field:PySem.W.kitOne K (.type "int") (.ref az)=some false)
  (y_on_Field:PySem.W.kitOne K (.type "NoneType") (.ref az)=some false)
  (y_os_Field:PySem.W.kitOne K (.type "str") (.ref az)=some false)
  (y_ol_Field:PySem.W.kitOne K (.type "list") (.ref az)=some false)
  (y_ot_Field:PySem.W.kitOne K (.type "tuple") (.ref az)=some false)
  (y_od_Field:PySem.W.kitOne K (.type "dict") (.ref az)=some false)
  (z_all:PySem.W.nsIn K mainGlobals "all"=some none)
  (z_bool:PySem.W.nsIn K mainGlobals "bool"=some none)
  (z_divmod:PySem.W.nsIn K mainGlobals "divmod"=some none)
  (z_int:PySem.W.nsIn K mainGlobals "int"=some none)
  (z_isinstance:PySem.W.nsIn K mainGlobals "isinstance"=some none)
  (z_len:PySem.W.nsIn K mainGlobals "len"=some none)
  (z_list:PySem.W.nsIn K mainGlobals "list"=some none)
  (z_max:PySem.W.nsIn K mainGlobals "max"=some none)
  (z_min:PySem.W.nsIn K mainGlobals "min"=some none)
  (z_range:PySem.W.nsIn K mainGlobals "range"=some none)
  (z_repr:PySem.W.nsIn K mainGlobals "repr"=some none)
  (z_tuple:PySem.W.nsIn K mainGlobals "tuple"=some none)
  (z_zip:PySem.W.nsIn K mainGlobals "zip"=some none)
  (y_bb:PySem.W.kitOne K (.type "bool") (.type "bool")=some true)
  (y_bi:PySem.W.kitOne K (.type "bool") (.type "int")=some true)
  (y_bl:PySem.W.kitOne K (.type "bool") (.type "list")=some false)
  (y_bt:PySem.W.kitOne K (.type "bool") (.type "tuple")=some false)
  (y_ib:PySem.W.kitOne K (.type "int") (.type "bool")=some false)
  (y_ii:PySem.W.kitOne K (.type "int") (.type "int")=some true)
  (y_il:PySem.W.kitOne K (.type "int") (.type "list")=some false)
  (y_it:PySem.W.kitOne K (.type "int") (.type "tuple")=some false)
  (y_nb:PySem.W.kitOne K (.type "NoneType") (.type "bool")=some false)
  (y_ni:PySem.W.kitOne K (.type "NoneType") (.type "int")=some false)
  (y_nl:PySem.W.kitOne K (.type "NoneType") (.type "list")=some false)
  (y_nt:PySem.W.kitOne K (.type "NoneType") (.type "tuple")=some false)
  (y_sb:PySem.W.kitOne K (.type "str") (.type "bool")=some false)
  (y_si:PySem.W.kitOne K (.type "str") (.type "int")=some false)
  (y_sl:PySem.W.kitOne K (.type "str") (.type "list")=some false)
  (y_st:PySem.W.kitOne K (.type "str") (.type "tuple")=some false)
  (y_lb:PySem.W.kitOne K (.type "list") (.type "bool")=some false)
  (y_li:PySem.W.kitOne K (.type "list") (.type "int")=some false)
  (y_ll:PySem.W.kitOne K (.type "list") (.type "list")=some true)
  (y_lt:PySem.W.kitOne K (.type "list") (.type "tuple")=some false)
  (y_tb:PySem.W.kitOne K (.type "tuple") (.type "bool")=some false)
  (y_ti:PySem.W.kitOne K (.type "tuple") (.type "int")=some false)
  (y_tl:PySem.W.kitOne K (.type "tuple") (.type "list")=some false)
  (y_tt:PySem.W.kitOne K (.type "tuple") (.type "tuple")=some true)
  (y_db:PySem.W.kitOne K (.type "dict") (.type "bool")=some false)
  (y_di:PySem.W.kitOne K (.type "dict") (.type "int")=some false)
  (y_dl:PySem.W.kitOne K (.type "dict") (.type "list")=some false)
  (y_dt:PySem.W.kitOne K (.type "dict") (.type "tuple")=some false) :
  ∃ fd:FuncData,(∀ (s:Shared) (v:Value),BindsTo s fd ⟨[v],[]⟩ [("_law_script",v)])∧∀ base:Heap,K.In base→base.Ns mainGlobals mg→bK l.prog w K mg base CX0 9 fa fd ["_law_script"] (nX K):=by
 have e:=hfa.symm.trans (PySem.W.mg_of X G a29)
 cases e
 have T:Txt K mg ⟨az,f0,PySem.W.fnOf "is_whole" "is_whole" (aq cz) (ao cz) (ae cz) .none kV0 dc0 pm0 an0 cd0 ct0,f1,PySem.W.fnOf "is_number" "is_number" (aq b_) (ao b_) (ae b_) .none kV1 dc1 pm1 an1 cd1 ct1,f2,PySem.W.fnOf "is_row" "is_row" (aq cN) (ao cN) (ae cN) .none kV2 dc2 pm2 an2 cd2 ct2,f3,PySem.W.fnOf "is_size" "is_size" (aq cG) (ao cG) (ae cG) .none kV3 dc3 pm3 an3 cd3 ct3,f4,PySem.W.fnOf "is_place_within" "is_place_within" (aq aR) (ao aR) (ae aR) .none kV4 dc4 pm4 an4 cd4 ct4,f5,PySem.W.fnOf "are_rows" "are_rows" (aq bW) (ao bW) (ae bW) .none kV5 dc5 pm5 an5 cd5 ct5,f6,PySem.W.fnOf "__init__" "Field.__init__" (aq aP) (ao aP) (ae aP) .none kV6 dc6 pm6 an6 cd6 ct6,f7,PySem.W.fnOf "height" "Field.height" (aq bq) (ao bq) (ae bq) .none kV7 dc7 pm7 an7 cd7 ct7,f8,PySem.W.fnOf "width" "Field.width" (aq bD) (ao bD) (ae bD) .none kV8 dc8 pm8 an8 cd8 ct8,f9,PySem.W.fnOf "rows" "Field.rows" (aq bF) (ao bF) (ae bF) .none kV9 dc9 pm9 an9 cd9 ct9,f10,PySem.W.fnOf "flat" "Field.flat" (aq bH) (ao bH) (ae bH) .none kV10 dc10 pm10 an10 cd10 ct10,f11,PySem.W.fnOf "places" "Field.places" (aq ba) (ao ba) (ae ba) .none kV11 dc11 pm11 an11 cd11 ct11,f12,PySem.W.fnOf "is_place" "Field.is_place" (aq aV) (ao aV) (ae aV) .none kV12 dc12 pm12 an12 cd12 ct12,f13,PySem.W.fnOf "at" "Field.at" (aq cB) (ao cB) (ae cB) .none kV13 dc13 pm13 an13 cd13 ct13,f14,PySem.W.fnOf "with_number" "Field.with_number" (aq aG) (ao aG) (ae aG) .none kV14 dc14 pm14 an14 cd14 ct14,f15,PySem.W.fnOf "same" "Field.same" (aq bP) (ao bP) (ae bP) .none kV15 dc15 pm15 an15 cd15 ct15,f16,PySem.W.fnOf "_law_cell" "_law_cell" (aq cf) (ao cf) (ae cf) .none kV16 dc16 pm16 an16 cd16 ct16,f17,PySem.W.fnOf "_law_box" "_law_box" (aq cA) (ao cA) (ae cA) .none kV17 dc17 pm17 an17 cd17 ct17,f18,PySem.W.fnOf "_law_take" "_law_take" (aq cb) (ao cb) (ae cb) .none kV18 dc18 pm18 an18 cd18 ct18,f19,PySem.W.fnOf "_law_number" "_law_number" (aq bC) (ao bC) (ae bC) .none kV19 dc19 pm19 an19 cd19 ct19,f20,PySem.W.fnOf "_law_whole" "_law_whole" (aq bN) (ao bN) (ae bN) .none kV20 dc20 pm20 an20 cd20 ct20,f21,PySem.W.fnOf "_law_size" "_law_size" (aq cc) (ao cc) (ae cc) .none kV21 dc21 pm21 an21 cd21 ct21,f22,PySem.W.fnOf "_law_rows" "_law_rows" (aq bz) (ao bz) (ae bz) .none kV22 dc22 pm22 an22 cd22 ct22,f23,PySem.W.fnOf "_law_alike" "_law_alike" (aq bO) (ao bO) (ae bO) .none kV23 dc23 pm23 an23 cd23 ct23,f24,PySem.W.fnOf "_law_tells" "_law_tells" (aq bE) (ao bE) (ae bE) .none kV24 dc24 pm24 an24 cd24 ct24,f25,PySem.W.fnOf "_law_places_right" "_law_places_right" (aq aJ) (ao aJ) (ae aJ) .none kV25 dc25 pm25 an25 cd25 ct25,f26,PySem.W.fnOf "_law_other_right" "_law_other_right" (aq aF) (ao aF) (ae aF) .none kV26 dc26 pm26 an26 cd26 ct26,f27,PySem.W.fnOf "_law_turned" "_law_turned" (aq bB) (ao bB) (ae bB) .none kV27 dc27 pm27 an27 cd27 ct27,f28,PySem.W.fnOf "_law_shaken" "_law_shaken" (aq bp) (ao bp) (ae bp) .none kV28 dc28 pm28 an28 cd28 ct28,fa,PySem.W.fnOf "law" "law" (aq gY) (ao gY) (ae gY) .none kV29 dc29 pm29 an29 cd29 ct29⟩:=⟨⟨pg_Field,hd_Field,po_Field,sa_Field⟩,
  PySem.W.mg_of X G aC_Field,
  n_Field_grid,
  aA (st:=cz) l0 c0 k0,
  (aA (st:=cz) l0 c0 k0).binds (ps:=["thing","low","high"]) fun _ _ _ _ _ _ _ hl=>by obtain⟨_,_,_,rfl⟩:=ln3 hl;rfl,
  PySem.W.mg_of X G a0,
  aA (st:=b_) l1 c1 k1,
  (aA (st:=b_) l1 c1 k1).binds (ps:=["thing"]) fun _ _ _ _ _ _ _ hl=>by obtain⟨_,rfl⟩:=ln1 hl;rfl,
  PySem.W.mg_of X G a1,
  aA (st:=cN) l2 c2 k2,
  (aA (st:=cN) l2 c2 k2).binds (ps:=["thing","least"]) fun _ _ _ _ _ _ _ hl=>by obtain⟨_,_,rfl⟩:=ln2 hl;rfl,
  PySem.W.mg_of X G a2,
  aA (st:=cG) l3 c3 k3,
  (aA (st:=cG) l3 c3 k3).binds (ps:=["height","width"]) fun _ _ _ _ _ _ _ hl=>by obtain⟨_,_,rfl⟩:=ln2 hl;rfl,
  PySem.W.mg_of X G a3,
  aA (st:=aR) l4 c4 k4,
  (aA (st:=aR) l4 c4 k4).binds (ps:=["thing","height","width"]) fun _ _ _ _ _ _ _ hl=>by obtain⟨_,_,_,rfl⟩:=ln3 hl;rfl,
  PySem.W.mg_of X G a4,
  aA (st:=bW) l5 c5 k5,
  (aA (st:=bW) l5 c5 k5).binds (ps:=["thing"]) fun _ _ _ _ _ _ _ hl=>by obtain⟨_,rfl⟩:=ln1 hl;rfl,
  PySem.W.mg_of X G a5,
  aA (st:=aP) l6 c6 k6,
  (aA (st:=aP) l6 c6 k6).binds (ps:=["self","rows"]) fun _ _ _ _ _ _ _ hl=>by obtain⟨_,_,rfl⟩:=ln2 hl;rfl,
  aA (st:=bq) l7 c7 k7,
  (aA (st:=bq) l7 c7 k7).binds (ps:=["self"]) fun _ _ _ _ _ _ _ hl=>by obtain⟨_,rfl⟩:=ln1 hl;rfl,
  aA (st:=bD) l8 c8 k8,
  (aA (st:=bD) l8 c8 k8).binds (ps:=["self"]) fun _ _ _ _ _ _ _ hl=>by obtain⟨_,rfl⟩:=ln1 hl;rfl,
  aA (st:=bF) l9 c9 k9,
  (aA (st:=bF) l9 c9 k9).binds (ps:=["self"]) fun _ _ _ _ _ _ _ hl=>by obtain⟨_,rfl⟩:=ln1 hl;rfl,
  aA (st:=bH) l10 c10 k10,
  (aA (st:=bH) l10 c10 k10).binds (ps:=["self"]) fun _ _ _ _ _ _ _ hl=>by obtain⟨_,rfl⟩:=ln1 hl;rfl,
  aA (st:=ba) l11 c11 k11,
  (aA (st:=ba) l11 c11 k11).binds (ps:=["self"]) fun _ _ _ _ _ _ _ hl=>by obtain⟨_,rfl⟩:=ln1 hl;rfl,
  aA (st:=aV) l12 c12 k12,
  (aA (st:=aV) l12 c12 k12).binds (ps:=["self","thing"]) fun _ _ _ _ _ _ _ hl=>by obtain⟨_,_,rfl⟩:=ln2 hl;rfl,
  aA (st:=cB) l13 c13 k13,
  (aA (st:=cB) l13 c13 k13).binds (ps:=["self","place"]) fun _ _ _ _ _ _ _ hl=>by obtain⟨_,_,rfl⟩:=ln2 hl;rfl,
  aA (st:=aG) l14 c14 k14,
  (aA (st:=aG) l14 c14 k14).binds (ps:=["self","place","number"]) fun _ _ _ _ _ _ _ hl=>by obtain⟨_,_,_,rfl⟩:=ln3 hl;rfl,
  aA (st:=bP) l15 c15 k15,
  (aA (st:=bP) l15 c15 k15).binds (ps:=["self","thing"]) fun _ _ _ _ _ _ _ hl=>by obtain⟨_,_,rfl⟩:=ln2 hl;rfl,
  aA (st:=cf) l16 c16 k16,
  (aA (st:=cf) l16 c16 k16).binds (ps:=["_law_script","_law_k"]) fun _ _ _ _ _ _ _ hl=>by obtain⟨_,_,rfl⟩:=ln2 hl;rfl,
  PySem.W.mg_of X G a16,
  aA (st:=cA) l17 c17 k17,
  (aA (st:=cA) l17 c17 k17).binds (ps:=["_law_cell_here"]) fun _ _ _ _ _ _ _ hl=>by obtain⟨_,rfl⟩:=ln1 hl;rfl,
  PySem.W.mg_of X G a17,
  aA (st:=cb) l18 c18 k18,
  (aA (st:=cb) l18 c18 k18).binds (ps:=["_law_box_here","_law_many"]) fun _ _ _ _ _ _ _ hl=>by obtain⟨_,_,rfl⟩:=ln2 hl;rfl,
  PySem.W.mg_of X G a18,
  aA (st:=bC) l19 c19 k19,
  (aA (st:=bC) l19 c19 k19).binds (ps:=["_law_box_here"]) fun _ _ _ _ _ _ _ hl=>by obtain⟨_,rfl⟩:=ln1 hl;rfl,
  PySem.W.mg_of X G a19,
  aA (st:=bN) l20 c20 k20,
  (aA (st:=bN) l20 c20 k20).binds (ps:=["_law_found"]) fun _ _ _ _ _ _ _ hl=>by obtain⟨_,rfl⟩:=ln1 hl;rfl,
  PySem.W.mg_of X G a20,
  aA (st:=cc) l21 c21 k21,
  (aA (st:=cc) l21 c21 k21).binds (ps:=["_law_box_here"]) fun _ _ _ _ _ _ _ hl=>by obtain⟨_,rfl⟩:=ln1 hl;rfl,
  PySem.W.mg_of X G a21,
  aA (st:=bz) l22 c22 k22,
  (aA (st:=bz) l22 c22 k22).binds (ps:=["_law_box_here","_law_size_here"]) fun _ _ _ _ _ _ _ hl=>by obtain⟨_,_,rfl⟩:=ln2 hl;rfl,
  PySem.W.mg_of X G a22,
  aA (st:=bO) l23 c23 k23,
  (aA (st:=bO) l23 c23 k23).binds (ps:=["_law_found","_law_due"]) fun _ _ _ _ _ _ _ hl=>by obtain⟨_,_,rfl⟩:=ln2 hl;rfl,
  PySem.W.mg_of X G a23,
  aA (st:=bE) l24 c24 k24,
  (aA (st:=bE) l24 c24 k24).binds (ps:=["_law_field","_law_rows_here"]) fun _ _ _ _ _ _ _ hl=>by obtain⟨_,_,rfl⟩:=ln2 hl;rfl,
  PySem.W.mg_of X G a24,
  aA (st:=aJ) l25 c25 k25,
  (aA (st:=aJ) l25 c25 k25).binds (ps:=["_law_field","_law_size_here"]) fun _ _ _ _ _ _ _ hl=>by obtain⟨_,_,rfl⟩:=ln2 hl;rfl,
  PySem.W.mg_of X G a25,
  aA (st:=aF) l26 c26 k26,
  (aA (st:=aF) l26 c26 k26).binds (ps:=["_law_box_here","_law_field","_law_rows_here"]) fun _ _ _ _ _ _ _ hl=>by obtain⟨_,_,_,rfl⟩:=ln3 hl;rfl,
  PySem.W.mg_of X G a26,
  aA (st:=bB) l27 c27 k27,
  (aA (st:=bB) l27 c27 k27).binds (ps:=["_law_box_here","_law_some"]) fun _ _ _ _ _ _ _ hl=>by obtain⟨_,_,rfl⟩:=ln2 hl;rfl,
  PySem.W.mg_of X G a27,
  aA (st:=bp) l28 c28 k28,
  (aA (st:=bp) l28 c28 k28).binds (ps:=["_law_box_here","_law_field","_law_handed"]) fun _ _ _ _ _ _ _ hl=>by obtain⟨_,_,_,rfl⟩:=ln3 hl;rfl,
  PySem.W.mg_of X G a28,
  aA (st:=gY) l29 c29 k29,
  (aA (st:=gY) l29 c29 k29).binds (ps:=["_law_script"]) fun _ _ _ _ _ _ _ hl=>by obtain⟨_,rfl⟩:=ln1 hl;rfl,
  PySem.W.mg_of X G a29,
  ⟨mk_Field,a6,i6,kc_Field⟩,
  ⟨a7,i7,k7⟩,
  ⟨a8,i8,k8⟩,
  ⟨a9,i9,k9⟩,
  ⟨a10,i10,k10⟩,
  ⟨a11,i11,k11⟩,
  ⟨a12,i12,k12⟩,
  ⟨a13,i13,k13⟩,
  ⟨a14,i14,k14⟩,
  ⟨a15,i15,k15⟩,
  ⟨_,PySem.W.mg_of X G q_MOST_NUMBER⟩,
  ⟨_,PySem.W.mg_of X G q_MOST_PLACES⟩,
  ⟨_,PySem.W.mg_of X G q_MOST_SIDE⟩,
  ⟨⟨pg_Field,hd_Field,po_Field,sa_Field⟩,oc_Field,og_Field,ot_Field,ob_Field,y_oo_Field,y_ob_Field,y_oi_Field,y_on_Field,y_os_Field,y_ol_Field,y_ot_Field,y_od_Field⟩,
  PySem.W.mg_none_of X G z_all,
  PySem.W.mg_none_of X G z_bool,
  PySem.W.mg_none_of X G z_divmod,
  PySem.W.mg_none_of X G z_int,
  PySem.W.mg_none_of X G z_isinstance,
  PySem.W.mg_none_of X G z_len,
  PySem.W.mg_none_of X G z_list,
  PySem.W.mg_none_of X G z_max,
  PySem.W.mg_none_of X G z_min,
  PySem.W.mg_none_of X G z_range,
  PySem.W.mg_none_of X G z_repr,
  PySem.W.mg_none_of X G z_tuple,
  PySem.W.mg_none_of X G z_zip,
  ⟨y_bb,y_bi,y_bl,y_bt,y_ib,y_ii,y_il,y_it,y_nb,y_ni,y_nl,y_nt,y_sb,y_si,y_sl,y_st,y_lb,y_li,y_ll,y_lt,y_tb,y_ti,y_tl,y_tt,y_db,y_di,y_dl,y_dt⟩⟩
 exact⟨_,fun s v=>.of_eq rfl,fun base _ _=>Bp T⟩
theorem walk {l:PySem.W.OpenLaw} {q:Program} {loose:List Str} {XP:(Str→Option Value)→Heap→Prop} {YP:World→Heap→Prop} {d:DefRec} {K:Params→PySem.W.Frag} (hn:l.most=some 63) (hdf:d.params.defaults=[])
  (hY:∀ (w:World) (h:Heap),YP w h→(K w.params).In h)
  (F:∀ (w:World) (mg:Str→Option Value) (fa:Addr) (h:Heap),(K w.params).In h→h.Ns mainGlobals mg→mg d.name=some (.ref fa)→
   ∃ fd:FuncData,(∀ (s:Shared) (u:Value),BindsTo s fd ⟨[u],[]⟩ [("_law_script",u)])∧∀ base:Heap,(K w.params).In base→base.Ns mainGlobals mg→bK l.prog w (K w.params) mg base CX0 9 fa fd ["_law_script"] (nX (K w.params))) :
  PySem.W.WalkO q loose XP YP l.row.toRowW d [] (fun f vs=>PySem.call f vs):=
 L2.xw (n:=63) (k:=9) (x:="_law_script") (CX:=fun _=>CX0) (sp:=fun w=>nX (K w.params)) hn (by decide) hdf ⟨rfl,by decide,by decide,rfl⟩ hY F (fun _ _ a ns hl _ hS=>⟨a,ns,rfl,hS,hl,fun _=>rfl⟩) fun _ _ _ _ _ z=>z
end K02
namespace PySem.W.Fast
theorem tw4865985525139454765:True:=trivial
theorem tw16797098381253427661:True:=trivial
theorem tw588391877859243565:True:=trivial
theorem tw10456583249060728365:True:=trivial
theorem tw15564996715360226733:True:=trivial
theorem tw9815617327733843917:True:=trivial
theorem tw11763171799410364045:True:=trivial
theorem tw4641424697283750836:True:=trivial
theorem tw11994569567587085940:True:=trivial
theorem tw15661654230465679636:True:=trivial
theorem tw9184790338106670100:True:=trivial
theorem tw937066288658047284:True:=trivial
theorem tw17357184141922050004:True:=trivial
theorem tw6762378283031733727:True:=trivial
theorem tw3778374981448258495:True:=trivial
theorem tw6845168528468170687:True:=trivial
theorem tw16285330067153759071:True:=trivial
theorem tw4064348949806375295:True:=trivial
theorem tw16404933479218239071:True:=trivial
theorem tw18103324143621176614:True:=trivial
theorem tw15887463303189894310:True:=trivial
theorem tw10886931258726535334:True:=trivial
theorem tw7994266674096851334:True:=trivial
theorem tw5208766566983152678:True:=trivial
theorem tw9495450212424934662:True:=trivial
theorem tw8759988617425252614:True:=trivial
theorem tw1498340269663869734:True:=trivial
theorem tw15702382779320157254:True:=trivial
theorem tw18166947151179116198:True:=trivial
theorem tw12214910946577004198:True:=trivial
theorem tw4996836891985120966:True:=trivial
theorem tw14927514176308070321:True:=trivial
theorem tw7852759657146609457:True:=trivial
theorem tw12457978051189702033:True:=trivial
theorem tw16918383284699542961:True:=trivial
theorem tw12025549932612675601:True:=trivial
theorem tw7350716228090443057:True:=trivial
theorem tw6979999951245342120:True:=trivial
theorem tw18444413134702708360:True:=trivial
theorem tw4202510977685871784:True:=trivial
theorem tw307944367130251368:True:=trivial
theorem tw8011670003533940648:True:=trivial
theorem tw7219271471485214632:True:=trivial
theorem tw11839271812818578632:True:=trivial
theorem tw15477763877101610664:True:=trivial
theorem tw3253087344962119272:True:=trivial
theorem tw17645438590959774312:True:=trivial
theorem tw9913220184694551843:True:=trivial
theorem tw1816341079489938947:True:=trivial
theorem tw5522106959537532355:True:=trivial
theorem tw3101047283984579011:True:=trivial
theorem tw757256190109730115:True:=trivial
theorem tw18420849463336448195:True:=trivial
theorem tw18441717057438914403:True:=trivial
theorem tw7172798215114604611:True:=trivial
theorem tw4289405104657044483:True:=trivial
theorem tw11198777603993164803:True:=trivial
theorem tw8938605150209406851:True:=trivial
theorem tw13057132797041008163:True:=trivial
theorem tw1178717169495245635:True:=trivial
theorem tw11406589276411935555:True:=trivial
theorem tw10639703758143205731:True:=trivial
theorem tw560366715326259610:True:=trivial
theorem tw16106149578944732218:True:=trivial
theorem tw5091281359964535066:True:=trivial
theorem tw2429351600443297658:True:=trivial
theorem tw6529533178669644538:True:=trivial
theorem tw6995988851298470874:True:=trivial
theorem tw1671513817729706778:True:=trivial
theorem tw7610105396370753178:True:=trivial
theorem tw2160920946174819621:True:=trivial
theorem tw14564035062549784869:True:=trivial
theorem tw15707280951079943269:True:=trivial
theorem tw11609623322355886469:True:=trivial
theorem tw17147027697197162469:True:=trivial
theorem tw5024954952967915781:True:=trivial
theorem tw5646243107345712844:True:=trivial
theorem tw1691654763644863468:True:=trivial
theorem tw2580877144115803404:True:=trivial
theorem tw655775410102553132:True:=trivial
theorem tw10046706502088457708:True:=trivial
theorem tw3760886899916474508:True:=trivial
theorem tw13736864567160031596:True:=trivial
theorem tw1086880813926665516:True:=trivial
theorem tw14719609927482121516:True:=trivial
theorem tw3462748552616720204:True:=trivial
theorem tw7595564246483886199:True:=trivial
theorem tw5426397202415054231:True:=trivial
theorem tw9969925292211927031:True:=trivial
theorem tw18153811358364067767:True:=trivial
theorem tw15697419806918193367:True:=trivial
theorem tw16398936840539751447:True:=trivial
theorem tw535298276135972759:True:=trivial
theorem tw8058314450141519223:True:=trivial
theorem tw16853273023061501534:True:=trivial
theorem tw3538090450324535710:True:=trivial
theorem tw15857429196555452766:True:=trivial
theorem tw1504984676742160382:True:=trivial
theorem tw5966707747973899134:True:=trivial
theorem tw1770325579551759518:True:=trivial
theorem tw4583090493411144606:True:=trivial
theorem tw5601287547957500414:True:=trivial
theorem tw7799168866727796158:True:=trivial
theorem tw9375259512320838665:True:=trivial
theorem tw6544020793443500713:True:=trivial
theorem tw11842070429277354889:True:=trivial
theorem tw11200938507118467913:True:=trivial
theorem tw12528711873831255689:True:=trivial
theorem tw1585106632857941449:True:=trivial
theorem tw438213036338152905:True:=trivial
theorem tw3694452913453211017:True:=trivial
theorem tw9776016204337703241:True:=trivial
theorem tw4495236046421914889:True:=trivial
theorem tw5810931875893421257:True:=trivial
theorem tw11658535154269051689:True:=trivial
theorem tw16893833414825257472:True:=trivial
theorem tw17872346794647696160:True:=trivial
theorem tw1213941032171379168:True:=trivial
theorem tw14218535956332825728:True:=trivial
theorem tw15954378639836752832:True:=trivial
theorem tw8615060773054948512:True:=trivial
theorem tw6527151763782972512:True:=trivial
theorem tw10450740974013591131:True:=trivial
theorem tw8439108838257427035:True:=trivial
theorem tw1431882578239935067:True:=trivial
theorem tw4887139170131278363:True:=trivial
theorem tw16086665887920837147:True:=trivial
theorem tw13826755191891722427:True:=trivial
theorem tw7935359082318675163:True:=trivial
theorem tw9641013411668251291:True:=trivial
theorem tw8637557688329613746:True:=trivial
theorem tw1970496047532879954:True:=trivial
theorem tw13112359342987589874:True:=trivial
theorem tw13809360702325394258:True:=trivial
theorem tw3347642501717693234:True:=trivial
theorem tw15688709722095881714:True:=trivial
theorem tw918427621755558685:True:=trivial
theorem tw8837074397054341565:True:=trivial
theorem tw9263908863743482237:True:=trivial
theorem tw2441852650255962301:True:=trivial
theorem tw202928146619944125:True:=trivial
theorem tw3356379238363428189:True:=trivial
theorem tw1214089513010661245:True:=trivial
theorem tw11188076659583677181:True:=trivial
theorem tw11981010741493611549:True:=trivial
theorem tw13530607901125623773:True:=trivial
theorem tw9857676419003873181:True:=trivial
theorem tw7146282419534730244:True:=trivial
theorem tw10994715021076126372:True:=trivial
theorem tw13888332311733836388:True:=trivial
theorem tw6174801176157452164:True:=trivial
theorem tw2443141655834715620:True:=trivial
theorem tw5604345917637257796:True:=trivial
theorem tw530583207427143172:True:=trivial
theorem tw4308110697996322244:True:=trivial
theorem tw28002664091606404:True:=trivial
theorem tw16319565053473777700:True:=trivial
theorem tw8615813278275267556:True:=trivial
theorem tw2470157953823083652:True:=trivial
theorem tw11020678627202689828:True:=trivial
theorem tw14326214669606969412:True:=trivial
theorem tw13853136749956916367:True:=trivial
theorem tw13746559925021742511:True:=trivial
theorem tw17420901490568822191:True:=trivial
theorem tw1063037061310565391:True:=trivial
theorem tw2705110529509633039:True:=trivial
theorem tw12311409410290559215:True:=trivial
theorem tw5887819573498949455:True:=trivial
theorem tw12032390572367885967:True:=trivial
theorem tw15138005687112187823:True:=trivial
theorem tw694161523454545487:True:=trivial
theorem tw921148009657447215:True:=trivial
theorem tw17342768159208011215:True:=trivial
theorem tw17339395535159124655:True:=trivial
theorem tw10092804784968494415:True:=trivial
theorem tw5218089874438403407:True:=trivial
theorem tw14782993673803549007:True:=trivial
theorem tw5663861260215253263:True:=trivial
theorem tw15436410794581465558:True:=trivial
theorem tw5725486350000153654:True:=trivial
theorem tw11981155580468382934:True:=trivial
theorem tw3601094736445504310:True:=trivial
theorem tw6265241464534947574:True:=trivial
theorem tw301169410034290646:True:=trivial
theorem tw5843607953504359318:True:=trivial
theorem tw11401082492492445174:True:=trivial
theorem tw4217429045028996822:True:=trivial
theorem tw2751310294875273590:True:=trivial
theorem tw5973304877114318486:True:=trivial
theorem tw3376759802621136833:True:=trivial
theorem tw5317057992277171009:True:=trivial
theorem tw5039881319122667137:True:=trivial
theorem tw3959889536703279265:True:=trivial
theorem tw748718298451288097:True:=trivial
theorem tw3016800071599986881:True:=trivial
theorem tw17736118728497352248:True:=trivial
theorem tw15367209767105435192:True:=trivial
theorem tw11144301645022549720:True:=trivial
theorem tw14363515910596425784:True:=trivial
theorem tw5482898987693999320:True:=trivial
theorem tw10272718781969372984:True:=trivial
theorem tw13775195348943918904:True:=trivial
theorem tw2928359585099657912:True:=trivial
theorem tw5401505206409494003:True:=trivial
theorem tw135114909591854259:True:=trivial
theorem tw4557499122191552435:True:=trivial
theorem tw15407342293440808883:True:=trivial
theorem tw4424085837336790058:True:=trivial
theorem tw7386858660358798666:True:=trivial
theorem tw2896195687825522666:True:=trivial
theorem tw6204630793494824202:True:=trivial
theorem tw8427070075834510250:True:=trivial
theorem tw7812234169406445770:True:=trivial
theorem tw13624452975506401354:True:=trivial
theorem tw6237033638273281034:True:=trivial
theorem tw10721425822268540330:True:=trivial
theorem tw14462443381658227114:True:=trivial
theorem tw1885391880155706794:True:=trivial
theorem tw14715629924927017322:True:=trivial
theorem tw11460855082555507509:True:=trivial
theorem tw6288598920292597493:True:=trivial
theorem tw13493046559867379029:True:=trivial
theorem tw6582098408076932373:True:=trivial
theorem tw9727770766418604277:True:=trivial
theorem tw5686114321811890421:True:=trivial
theorem tw15146408843640242293:True:=trivial
theorem tw6895896644913184469:True:=trivial
theorem tw5381948337420838876:True:=trivial
theorem tw16497650371402226076:True:=trivial
theorem tw17397265856709889020:True:=trivial
theorem tw4314423872982718268:True:=trivial
theorem tw3244740803929474983:True:=trivial
theorem tw15217754071076887399:True:=trivial
theorem tw1604063935877600999:True:=trivial
theorem tw3994719108307975175:True:=trivial
theorem tw6540851024919773127:True:=trivial
theorem tw4735209378756618055:True:=trivial
theorem tw4321884259603113447:True:=trivial
theorem tw16650490637049445127:True:=trivial
theorem tw16785224848827927911:True:=trivial
theorem tw10412741934447345806:True:=trivial
theorem tw1803554023718089806:True:=trivial
theorem tw4921409625816001902:True:=trivial
theorem tw15393552404798040014:True:=trivial
theorem tw5622716863299253134:True:=trivial
theorem tw11002805677225675598:True:=trivial
theorem tw2771474472740118286:True:=trivial
theorem tw14392984583676650478:True:=trivial
theorem tw15866969137188339566:True:=trivial
theorem tw6001078215826097678:True:=trivial
theorem tw18003737677451423534:True:=trivial
theorem tw5408421986756679118:True:=trivial
theorem tw8053811112533978862:True:=trivial
theorem tw7584642846241765774:True:=trivial
theorem tw12901665898300760398:True:=trivial
theorem tw5542779395201087513:True:=trivial
theorem tw14332548631933816185:True:=trivial
theorem tw6069567023898293849:True:=trivial
theorem tw12997698426693197945:True:=trivial
theorem tw5763812548610586681:True:=trivial
theorem tw10995154924758804825:True:=trivial
theorem tw7101661526435926969:True:=trivial
theorem tw17626384828738794297:True:=trivial
theorem tw10763478607804103472:True:=trivial
theorem tw2263472806260677360:True:=trivial
theorem tw10474826131471962384:True:=trivial
theorem tw17513510309463678160:True:=trivial
theorem tw18103301405019894736:True:=trivial
theorem tw13232870711142726832:True:=trivial
theorem tw7572205712113382955:True:=trivial
theorem tw3219712742934152555:True:=trivial
theorem tw16168933661896209538:True:=trivial
theorem tw1014952687651364642:True:=trivial
theorem tw17853138846805589794:True:=trivial
theorem tw71995302469135362:True:=trivial
theorem tw5552263599719536034:True:=trivial
theorem tw16496201893470254786:True:=trivial
theorem tw1016050216965597474:True:=trivial
theorem tw8462434628102661082:True:=trivial
end PySem.W.Fast
open PySem PySem.W PyProof.Rows
set_option maxRecDepth 100000 in
set_option maxHeartbeats 0 in
theorem PySem.Challenge.cw_halvedpictures_k02_fields_kept_holds : PySem.Challenge.rw_halvedpictures_k02_fields_kept.Holds := by
 w_on;o_law;k_head;(case hw=>w_witness2)
 k_fill
 refine K02.walk (l:=PySem.Challenge.rw_halvedpictures_k02_fields_kept) rfl rfl (fun w h Y=>PySem.W.kIn_of Y) ?F
 case F=>
  intro w mg fa h KX G hmg
  refine' K02.all_mk KX G hmg ?aC_Field ?pg_Field ?hd_Field ?po_Field ?sa_Field ?mk_Field ?kc_Field ?n_Field_grid ?a0 ?l0 ?c0 ?k0 ?a1 ?l1 ?c1 ?k1 ?a2 ?l2 ?c2 ?k2 ?a3 ?l3 ?c3 ?k3 ?a4 ?l4 ?c4 ?k4 ?a5 ?l5 ?c5 ?k5 ?a6 ?i6 ?l6 ?c6 ?k6 ?a7 ?i7 ?l7 ?c7 ?k7 ?a8 ?i8 ?l8 ?c8 ?k8 ?a9 ?i9 ?l9 ?c9 ?k9 ?a10 ?i10 ?l10 ?c10 ?k10 ?a11 ?i11 ?l11 ?c11 ?k11 ?a12 ?i12 ?l12 ?c12 ?k12 ?a13 ?i13 ?l13 ?c13 ?k13 ?a14 ?i14 ?l14 ?c14 ?k14 ?a15 ?i15 ?l15 ?c15 ?k15 ?a16 ?l16 ?c16 ?k16 ?a17 ?l17 ?c17 ?k17 ?a18 ?l18 ?c18 ?k18 ?a19 ?l19 ?c19 ?k19 ?a20 ?l20 ?c20 ?k20 ?a21 ?l21 ?c21 ?k21 ?a22 ?l22 ?c22 ?k22 ?a23 ?l23 ?c23 ?k23 ?a24 ?l24 ?c24 ?k24 ?a25 ?l25 ?c25 ?k25 ?a26 ?l26 ?c26 ?k26 ?a27 ?l27 ?c27 ?k27 ?a28 ?l28 ?c28 ?k28 ?a29 ?l29 ?c29 ?k29 ?q_MOST_NUMBER ?q_MOST_PLACES ?q_MOST_SIDE ?oc_Field ?og_Field ?ot_Field ?ob_Field ?y_oo_Field ?y_ob_Field ?y_oi_Field ?y_on_Field ?y_os_Field ?y_ol_Field ?y_ot_Field ?y_od_Field ?z_all ?z_bool ?z_divmod ?z_int ?z_isinstance ?z_len ?z_list ?z_max ?z_min ?z_range ?z_repr ?z_tuple ?z_zip ?y_bb ?y_bi ?y_bl ?y_bt ?y_ib ?y_ii ?y_il ?y_it ?y_nb ?y_ni ?y_nl ?y_nt ?y_sb ?y_si ?y_sl ?y_st ?y_lb ?y_li ?y_ll ?y_lt ?y_tb ?y_ti ?y_tl ?y_tt ?y_db ?y_di ?y_dl ?y_dt
  (case aC_Field=>k_is)
  (case pg_Field=>k_is)
  (case hd_Field=>k_is)
  (case po_Field=>k_is)
  (case sa_Field=>k_is)
  (case mk_Field=>k_is)
  (case kc_Field=>k_is)
  (case n_Field_grid=>k_is)
  (case a0=>k_is)
  (case l0=>k_is)
  (case c0=>k_is)
  (case k0=>k_is)
  (case a1=>k_is)
  (case l1=>k_is)
  (case c1=>k_is)
  (case k1=>k_is)
  (case a2=>k_is)
  (case l2=>k_is)
  (case c2=>k_is)
  (case k2=>k_is)
  (case a3=>k_is)
  (case l3=>k_is)
  (case c3=>k_is)
  (case k3=>k_is)
  (case a4=>k_is)
  (case l4=>k_is)
  (case c4=>k_is)
  (case k4=>k_is)
  (case a5=>k_is)
  (case l5=>k_is)
  (case c5=>k_is)
  (case k5=>k_is)
  (case a6=>k_is)
  (case i6=>k_is)
  (case l6=>k_is)
  (case c6=>k_is)
  (case k6=>k_is)
  (case a7=>k_is)
  (case i7=>k_is)
  (case l7=>k_is)
  (case c7=>k_is)
  (case k7=>k_is)
  (case a8=>k_is)
  (case i8=>k_is)
  (case l8=>k_is)
  (case c8=>k_is)
  (case k8=>k_is)
  (case a9=>k_is)
  (case i9=>k_is)
  (case l9=>k_is)
  (case c9=>k_is)
  (case k9=>k_is)
  (case a10=>k_is)
  (case i10=>k_is)
  (case l10=>k_is)
  (case c10=>k_is)
  (case k10=>k_is)
  (case a11=>k_is)
  (case i11=>k_is)
  (case l11=>k_is)
  (case c11=>k_is)
  (case k11=>k_is)
  (case a12=>k_is)
  (case i12=>k_is)
  (case l12=>k_is)
  (case c12=>k_is)
  (case k12=>k_is)
  (case a13=>k_is)
  (case i13=>k_is)
  (case l13=>k_is)
  (case c13=>k_is)
  (case k13=>k_is)
  (case a14=>k_is)
  (case i14=>k_is)
  (case l14=>k_is)
  (case c14=>k_is)
  (case k14=>k_is)
  (case a15=>k_is)
  (case i15=>k_is)
  (case l15=>k_is)
  (case c15=>k_is)
  (case k15=>k_is)
  (case a16=>k_is)
  (case l16=>k_is)
  (case c16=>k_is)
  (case k16=>k_is)
  (case a17=>k_is)
  (case l17=>k_is)
  (case c17=>k_is)
  (case k17=>k_is)
  (case a18=>k_is)
  (case l18=>k_is)
  (case c18=>k_is)
  (case k18=>k_is)
  (case a19=>k_is)
  (case l19=>k_is)
  (case c19=>k_is)
  (case k19=>k_is)
  (case a20=>k_is)
  (case l20=>k_is)
  (case c20=>k_is)
  (case k20=>k_is)
  (case a21=>k_is)
  (case l21=>k_is)
  (case c21=>k_is)
  (case k21=>k_is)
  (case a22=>k_is)
  (case l22=>k_is)
  (case c22=>k_is)
  (case k22=>k_is)
  (case a23=>k_is)
  (case l23=>k_is)
  (case c23=>k_is)
  (case k23=>k_is)
  (case a24=>k_is)
  (case l24=>k_is)
  (case c24=>k_is)
  (case k24=>k_is)
  (case a25=>k_is)
  (case l25=>k_is)
  (case c25=>k_is)
  (case k25=>k_is)
  (case a26=>k_is)
  (case l26=>k_is)
  (case c26=>k_is)
  (case k26=>k_is)
  (case a27=>k_is)
  (case l27=>k_is)
  (case c27=>k_is)
  (case k27=>k_is)
  (case a28=>k_is)
  (case l28=>k_is)
  (case c28=>k_is)
  (case k28=>k_is)
  (case a29=>k_is)
  (case l29=>k_is)
  (case c29=>k_is)
  (case k29=>k_is)
  (case q_MOST_NUMBER=>k_is)
  (case q_MOST_PLACES=>k_is)
  (case q_MOST_SIDE=>k_is)
  (case oc_Field=>k_is)
  (case og_Field=>k_is)
  (case ot_Field=>k_is)
  (case ob_Field=>k_is)
  (case y_oo_Field=>kit_is)
  (case y_ob_Field=>kit_is)
  (case y_oi_Field=>kit_is)
  (case y_on_Field=>kit_is)
  (case y_os_Field=>kit_is)
  (case y_ol_Field=>kit_is)
  (case y_ot_Field=>kit_is)
  (case y_od_Field=>kit_is)
  (case z_all=>k_is)
  (case z_bool=>k_is)
  (case z_divmod=>k_is)
  (case z_int=>k_is)
  (case z_isinstance=>k_is)
  (case z_len=>k_is)
  (case z_list=>k_is)
  (case z_max=>k_is)
  (case z_min=>k_is)
  (case z_range=>k_is)
  (case z_repr=>k_is)
  (case z_tuple=>k_is)
  (case z_zip=>k_is)
  (case y_bb=>kit_is)
  (case y_bi=>kit_is)
  (case y_bl=>kit_is)
  (case y_bt=>kit_is)
  (case y_ib=>kit_is)
  (case y_ii=>kit_is)
  (case y_il=>kit_is)
  (case y_it=>kit_is)
  (case y_nb=>kit_is)
  (case y_ni=>kit_is)
  (case y_nl=>kit_is)
  (case y_nt=>kit_is)
  (case y_sb=>kit_is)
  (case y_si=>kit_is)
  (case y_sl=>kit_is)
  (case y_st=>kit_is)
  (case y_lb=>kit_is)
  (case y_li=>kit_is)
  (case y_ll=>kit_is)
  (case y_lt=>kit_is)
  (case y_tb=>kit_is)
  (case y_ti=>kit_is)
  (case y_tl=>kit_is)
  (case y_tt=>kit_is)
  (case y_db=>kit_is)
  (case y_di=>kit_is)
  (case y_dl=>kit_is)
  (case y_dt=>kit_is)
