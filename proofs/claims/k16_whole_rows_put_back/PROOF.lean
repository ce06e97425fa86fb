import PyProof.Rows.All
import Wide.All
import OpenK.AllK
import Wide.FinOn
import Lean
import KE.KRevIter
import PyProof.EqAt
import PyProof.EqKinds
import PyProof.TupleCall
import KE.KPairComp
import PySem.Challenge.RW_halvedpictures_k16_whole_rows_put_back
set_option Elab.async false
set_option linter.all false
set_option maxRecDepth 100000
namespace L2
open PySem PySem.Spec PyProof.Rows
abbrev Key:=Sum Int Str
def D7:Key→Value→Bool
 | .inl k,v=>Value.isInt k v
 | .inr x,v=>Value.isStrOf x v
def Jg (w:World):Key→Int
 | .inl k=>hashInt k
 | .inr x=>hashStr w x
theorem cU:∀ {k:Key} {v:Value},D7 k v=true→(∃ i t,k=Sum.inl i∧v=Value.int i t)∨(∃ x t,k=Sum.inr x∧v=Value.str x t)
 | .inl i,v,h=>by
  obtain⟨t,e⟩:=Value.isInt_shape (k:=i) (v:=v) h
  exact .inl ⟨i,t,rfl,e⟩
 | .inr x,v,h=>by
  obtain⟨t,e⟩:=Value.isStrOf_shape (x:=x) (v:=v) h
  exact .inr ⟨x,t,rfl,e⟩
theorem FJ (a b:Int):decide ((Sum.inl a:Key)=Sum.inl b)=(a == b):=by
 by_cases e:a=b
 ·subst e;simp
 ·have h:¬ (Sum.inl a:Key)=Sum.inl b:=fun q=>e (Sum.inl.inj q)
  rw[decide_eq_false h]
  exact(beq_eq_false_iff_ne.mpr e).symm
theorem FG (a b:Str):decide ((Sum.inr a:Key)=Sum.inr b)=decide (a=b):=by
 by_cases e:a=b
 ·subst e;simp
 ·have h:¬ (Sum.inr a:Key)=Sum.inr b:=fun q=>e (Sum.inr.inj q)
  rw[decide_eq_false h,decide_eq_false e]
theorem FI (a:Int) (b:Str):decide ((Sum.inl a:Key)=Sum.inr b)=false:=decide_eq_false (fun q=>nomatch q)
theorem FH (a:Str) (b:Int):decide ((Sum.inr a:Key)=Sum.inl b)=false:=decide_eq_false (fun q=>nomatch q)
def yf (prog:Program) (w:World):PySem.KeyKind prog w Key where
 is:=D7
 hash:=Jg w
 inj:=fun v a b ha hb=>by
  rcases cU ha with ⟨i,t,rfl,rfl⟩ | ⟨x,t,rfl,rfl⟩
  ·rcases cU hb with ⟨j,u,rfl,e⟩ | ⟨y,u,rfl,e⟩
   ·injection e with e1 _;rw[e1]
   ·exact nomatch e
  ·rcases cU hb with ⟨j,u,rfl,e⟩ | ⟨y,u,rfl,e⟩
   ·exact nomatch e
   ·injection e with e1 _;rw[e1]
 byValue:=fun k v h=>by
  rcases cU h with ⟨i,t,rfl,rfl⟩ | ⟨x,t,rfl,rfl⟩ <;> rfl
 pyHash:=fun hv h=>by
  rcases cU hv with ⟨i,t,rfl,rfl⟩ | ⟨x,t,rfl,rfl⟩
  ·exact wpAny_pyHash_int h
  ·exact wpAny_pyHash_str h
 eqBool:=fun hu hv h=>by
  rcases cU hu with ⟨i,t,rfl,rfl⟩ | ⟨x,t,rfl,rfl⟩
  ·rcases cU hv with ⟨j,u,rfl,rfl⟩ | ⟨y,u,rfl,rfl⟩
   ·rw[FJ] at h;exact wpAny_eqBool_int h
   ·rw[FI] at h;exact SeqAt.EqAt.int_str i t y u _ _ _ _ h
  ·rcases cU hv with ⟨j,u,rfl,rfl⟩ | ⟨y,u,rfl,rfl⟩
   ·rw[FH] at h;exact SeqAt.EqAt.str_int x t j u _ _ _ _ h
   ·rw[FG] at h;exact wpAny_eqBool_str h
 «strs»:=fun k x t v h=>by
  rcases cU h with ⟨i,u,rfl,e⟩ | ⟨y,u,rfl,e⟩
  ·exact nomatch e
  ·injection e with e1 _
   subst e1
   cases v <;> rfl
end L2
namespace L2
open PySem PySem.Spec PyProof.Rows
inductive V where
 | non | bl (b:Bool) | int (i:Int) | str (x:Str) | byt (b:Array UInt8) | flt (b:UInt64) | ref (a:Addr) | ty (n:String)
 deriving DecidableEq
def RelV:V→Value→Prop
 | .non,u=>u=Value.none
 | .bl b,u=>u=Value.bool b
 | .int i,u=>∃ t,u=Value.int i t
 | .str x,u=>∃ t,u=Value.str x t
 | .byt b,u=>∃ t,u=Value.bytes b t
 | .flt b,u=>∃ t,u=Value.float b t
 | .ref a,u=>u=Value.ref a
 | .ty n,u=>u=Value.type n
abbrev Vals:List V→List Value→Prop:=Paired RelV
theorem Vals.length {xs:List V} {us:List Value} (r:Vals xs us):xs.length=us.length:=Paired.length r
theorem Vals.get:∀ {xs:List V} {us:List Value} {i:Nat} {x:V},Vals xs us→xs[i]?=some x→∃ u,us[i]?=some u∧RelV x u
 | _,_,_,_,.nil,e=>by simp at e
 | _,_,0,_,.cons r _,e=>by simp at e;subst e;exact⟨_,rfl,r⟩
 | _,_,i + 1,x,.cons _ t,e=>by
  obtain⟨u,h1,h2⟩:=Vals.get (i:=i) (x:=x) t (by simpa using e)
  exact⟨u,by simpa using h1,h2⟩
theorem Vals.set {x:V} {u:Value} (r:RelV x u):∀ {xs:List V} {us:List Value} (i:Nat),Vals xs us→Vals (xs.set i x) (us.set i u)
 | _,_,_,.nil=>.nil
 | _,_,0,.cons _ t=>.cons r t
 | _,_,i + 1,.cons q t=>.cons q (Vals.set r i t)
theorem Vals.append:∀ {xs ys:List V} {us ws:List Value},Vals xs us→Vals ys ws→Vals (xs++ys) (us++ws)
 | _,_,_,_,.nil,s=>s
 | _,_,_,_,.cons r t,s=>.cons r (Vals.append t s)
theorem Vals.take:∀ {xs:List V} {us:List Value} (n:Nat),Vals xs us→Vals (xs.take n) (us.take n)
 | _,_,0,_=>.nil
 | _,_,_ + 1,.nil=>.nil
 | _,_,n + 1,.cons r t=>.cons r (Vals.take n t)
theorem Vals.drop:∀ {xs:List V} {us:List Value} (n:Nat),Vals xs us→Vals (xs.drop n) (us.drop n)
 | _,_,0,r=>r
 | _,_,_ + 1,.nil=>.nil
 | _,_,n + 1,.cons _ t=>Vals.drop n t
theorem Vals.none_of:∀ {xs:List V} {us:List Value} {i:Nat},Vals xs us→xs[i]?=none→us[i]?=none:=fun {xs us i} r e=>by
 have h1:=r.length
 have h2:xs.length≤i:=List.getElem?_eq_none_iff.mp e
 exact List.getElem?_eq_none_iff.mpr (by omega)
def rV:Option V→Option Value→Prop
 | some v,some u=>RelV v u
 | none,none=>True
 | _,_=>False
def KV {κ:Type}:List (κ×V)→List (κ×Value)→Prop:=Paired fun (p:κ×V) (q:κ×Value)=>p.1=q.1∧RelV p.2 q.2
def kV:Key→V
 | .inl i=>.int i
 | .inr x=>.str x
inductive HO where
 | lst (xs:List V)
 | tup (xs:List V)
 | dK (kvs:List (Key×V)) | dT (kvs:List (List Key×V))
 | set (S:Int→Bool) (n:Nat)
 | ins (C dx:Addr) (fs:List (Str×V))
 | own (x:Addr)
 | xd (fs:List (Str×V))
 | met (f x:Addr)
 | rng (lo hi:Int)
 | frz (o:Obj) (u:HO)
 | tbl (ps:Array Value)
 | ext (φ:Heap→Prop)
abbrev Hp:=Addr→Option HO
def upd (H:Hp) (a:Addr) (o:HO):Hp:=fun b=>if b=a then some o else H b
theorem aC {H:Hp} {a:Addr} {o:HO}:upd H a o a=some o:=by unfold upd;rw[if_pos rfl]
theorem aj {H:Hp} {a b:Addr} {o:HO} (h:b≠a):upd H a o b=H b:=by unfold upd;rw[if_neg h]
theorem bx {H:Hp} {a b:Addr} {o:HO} (h:H a=some o) (h':H b=none):a≠b:=by
 intro e;subst e;rw[h] at h';cases h'
section
variable (P:Program) (w:World)
def eO (H:Hp) (h:Heap) (a:Addr):HO→Prop
 | .lst xs=>xs.length≤sizeLine∧∃ (its:List Value) (n:Nat),Vals xs its∧h.get? a=some { cls:=.type "list",data:=.seq its.toArray n }
 | .tup xs=>xs.length≤sizeLine∧∃ its:List Value,Vals xs its∧IsTup h a its.toArray
 | .dK kvs=>kvs.length≤sizeLine∧(a == sysModules)=false∧∃ vs,KV kvs vs∧h.DictOf (yf P w) a vs
 | .dT kvs=>kvs.length≤sizeLine∧(a == sysModules)=false∧∃ xs:List (List Key×Addr×Value),
   Paired (fun (p:List Key×V) (q:List Key×Addr×Value)=>p.1=q.1∧H q.2.1=some (.tup (p.1.map kV))∧RelV p.2 q.2.2) kvs xs∧
   ∃ o es ep,h.get? a=some o∧o.ExactDict∧o.data=.dict es ep∧es.toList=xs.map (entryOfKey (tupleKind (yf P w)))∧(xs.map (·.1)).Nodup
 | .set S n=>h.SetOf (intKind P w) a S n
 | .ins C dx fs=>H dx=some (.own a)∧fs.length≤1000∧dx≠a∧h.get? a=some (PySem.W.instObj C dx)∧
   ∃ mA,h.Ns1 dx mA∧(∀ f,rV (fs.lookup f) (mA f))∧PySem.Within mA (fs.map (·.1))
 | .own _=>∃ o,h.get? a=some o
 | .xd fs=>∃ mA,h.Ns1 a mA∧∀ f,rV (fs.lookup f) (mA f)
 | .rng lo hi=>∃ t u v,h.get? a=some { cls:=.type "range",data:=.fields #[.int lo t,.int hi u,.int 1 v] }
 | .frz o u=>h.get? a=some o∧eO H h a u
 | .tbl ps=>h.get? a=some { cls:=.none,data:=.fields ps }
 | .met f x=>h.get? a=some (PySem.W.methodObj (.ref f) (.ref x))
 | .ext φ=>φ h∧(∃ o,h.get? a=some o)∧∀ h1 h2:Heap,φ h1→(∀ o,h1.get? a=some o→h2.get? a=some o)→φ h2
def HOk (H:Hp) (h:Heap):Prop:=∀ a o,H a=some o→eO P w H h a o
end
section
variable {P:Program} {w:World} {H H':Hp} {h h':Heap} {a:Addr} {o:HO}
theorem eO.lt (x:eO P w H h a o):a < h.objs.size:=by
 cases o with
 | lst xs=>obtain⟨_,_,_,_,e⟩:=x;exact Heap.lt_size e
 | tup xs=>obtain⟨_,_,_,p⟩:=x;exact p.lt
 | dK kvs=>obtain⟨_,_,_,_,o,_,_,e,_⟩:=x;exact Heap.lt_size e
 | dT kvs=>obtain⟨_,_,_,_,o,_,_,e,_⟩:=x;exact Heap.lt_size e
 | set S n=>obtain⟨o,_,_,_,e,_⟩:=x;exact Heap.lt_size e
 | ins C dx fs=>obtain⟨_,_,_,e,_⟩:=x;exact Heap.lt_size e
 | own y=>obtain⟨_,e⟩:=x;exact Heap.lt_size e
 | xd fs=>obtain⟨_,⟨_,_,_,e,_⟩,_⟩:=x;exact Heap.lt_size e
 | rng lo hi=>obtain⟨_,_,_,e⟩:=x;exact Heap.lt_size e
 | frz ob u=>obtain⟨e,_⟩:=x;exact Heap.lt_size e
 | tbl ps=>exact Heap.lt_size (show h.get? a=some _ from x)
 | met f y=>exact Heap.lt_size (show h.get? a=some _ from x)
 | ext φ=>obtain⟨_,⟨_,e⟩,_⟩:=x;exact Heap.lt_size e
theorem Paired.Hh {α β:Type} {F G:α→β→Prop}:∀ {l₁:List α} {l₂:List β},Paired F l₁ l₂→(∀ a b,F a b→G a b)→Paired G l₁ l₂
 | _,_,.nil,_=>.nil
 | _,_,.cons r t,f=>.cons (f _ _ r) (Paired.Hh t f)
theorem eO.rL (x:eO P w H h a o) (k:∀ b u,(b=a∨H b=some (.own a))→h.get? b=some u→h'.get? b=some u)
  (ho:∀ b,H b=some (.own a)→H' b=some (.own a)) (ht:∀ b xs,H b=some (.tup xs)→H' b=some (.tup xs)):eO P w H' h' a o:=by
 induction o with
 | lst xs=>obtain⟨z,its,n,r,e⟩:=x;exact⟨z,its,n,r,k _ _ (.inl rfl) e⟩
 | tup xs=>obtain⟨z,its,r,ob,e,c⟩:=x;exact⟨z,its,r,ob,k _ _ (.inl rfl) e,c⟩
 | dK kvs=>obtain⟨z,y,vs,r,ob,es,ep,e,c⟩:=x;exact⟨z,y,vs,r,ob,es,ep,k _ _ (.inl rfl) e,c⟩
 | dT kvs=>
  obtain⟨z,y,xs,r,ob,es,ep,e,c⟩:=x
  exact⟨z,y,xs,Paired.Hh r fun p q z=>⟨z.1,ht _ _ z.2.1,z.2.2⟩,ob,es,ep,k _ _ (.inl rfl) e,c⟩
 | set S n=>obtain⟨ob,es,ep,t,e,c⟩:=x;exact⟨ob,es,ep,t,k _ _ (.inl rfl) e,c⟩
 | ins C dx fs=>
  obtain⟨d,z,ne,e,mA,⟨od,es,ep,e2,c⟩,r⟩:=x
  exact⟨ho _ d,z,ne,k _ _ (.inl rfl) e,mA,⟨od,es,ep,k _ _ (.inr d) e2,c⟩,r⟩
 | own y=>obtain⟨ob,e⟩:=x;exact⟨ob,k _ _ (.inl rfl) e⟩
 | xd fs=>obtain⟨mA,⟨od,es,ep,e,c⟩,r⟩:=x;exact⟨mA,⟨od,es,ep,k _ _ (.inl rfl) e,c⟩,r⟩
 | rng lo hi=>obtain⟨t,u,v,e⟩:=x;exact⟨t,u,v,k _ _ (.inl rfl) e⟩
 | frz ob u ih=>obtain⟨e,q⟩:=x;exact⟨k _ _ (.inl rfl) e,ih q⟩
 | tbl ps=>
  have e:h.get? a=some { cls:=.none,data:=.fields ps }:=x
  show h'.get? a=some { cls:=.none,data:=.fields ps }
  exact k a _ (.inl rfl) e
 | met f y=>
  have e:h.get? a=some (PySem.W.methodObj (.ref f) (.ref y)):=x
  show h'.get? a=some (PySem.W.methodObj (.ref f) (.ref y))
  exact k a _ (.inl rfl) e
 | ext φ=>obtain⟨p,⟨o,e⟩,st⟩:=x;exact⟨st _ _ p fun o q=>k _ _ (.inl rfl) q,⟨o,k _ _ (.inl rfl) e⟩,st⟩
theorem HOk.lt (x:HOk P w H h) (e:H a=some o):a < h.objs.size:=(x a o e).lt
theorem HOk.fresh (x:HOk P w H h) (e:h.objs.size≤a):H a=none:=by
 cases q:H a with
 | none=>rfl
 | some u=>exact absurd (Nat.lt_of_lt_of_le (x.lt q) e) (Nat.lt_irrefl _)
theorem HOk.kept (x:HOk P w H h) (k:∀ b u,h.get? b=some u→h'.get? b=some u):HOk P w H h':=fun a o e=>
 (x a o e).rL (fun b u _ q=>k b u q) (fun _ q=>q) fun _ _ q=>q
theorem HOk.laid (x:HOk P w H h) (k:∀ b u,h.get? b=some u→h'.get? b=some u) (hp:h.objs.size≤a) (new:eO P w (upd H a o) h' a o):HOk P w (upd H a o) h':=fun b u e=>by
 have hn:=x.fresh hp
 by_cases hb:b=a
 ·subst hb;rw[aC] at e;cases e;exact new
 ·rw[aj hb] at e
  exact(x b u e).rL (fun c v _ q=>k c v q) (fun c q=>by rw[aj (bx q hn)];exact q) fun c xs q=>by rw[aj (bx q hn)];exact q
end
def Rd (H:Hp) (a:Addr) (u:HO):Prop:=H a=some u∨∃ o,H a=some (.frz o u)
theorem Rd.ok {P:Program} {w:World} {H:Hp} {h:Heap} {a:Addr} {u:HO} (r:Rd H a u) (x:HOk P w H h):eO P w H h a u:=by
 rcases r with r | ⟨o,r⟩
 ·exact x a u r
 ·obtain⟨_,q⟩:=x a _ r
  exact q
def Mut:Option HO→Prop
 | some (.lst _)=>True
 | some (.dK _)=>True
 | some (.dT _)=>True
 | some (.set _ _)=>True
 | some (.ins _ _ _)=>True
 | some (.ext _)=>True
 | _=>False
section
variable {P:Program} {w:World} {H:Hp} {h h':Heap} {x e:Addr} {o':HO}
theorem HOk.write (ok:HOk P w H h) (mu:Mut (H x)) (he:e=x∨H e=some (.own x)) (k:∀ b u,b≠e→h.get? b=some u→h'.get? b=some u) (heo:∃ u,h'.get? e=some u)
  (new:eO P w (upd H x o') h' x o'):HOk P w (upd H x o') h':=fun b u q=>by
 have nown:∀ c y,H c=some (.own y)→c≠x:=fun c y r z=>by subst z;rw[r] at mu;exact mu
 have ntup:∀ c xs,H c=some (.tup xs)→c≠x:=fun c xs r z=>by subst z;rw[r] at mu;exact mu
 by_cases hb:b=x
 ·subst hb;rw[aC] at q;cases q;exact new
 ·rw[aj hb] at q
  by_cases hbe:b=e
  ·have q':H b=some (.own x):=by
    rcases he with z | z
    ·exact absurd (hbe.trans z) hb
    ·rw[hbe];exact z
   rw[q] at q';cases q'
   obtain⟨v,hv⟩:=heo
   exact⟨v,by rw[hbe];exact hv⟩
  ·refine(ok b u q).rL (fun c v hc r=>k c v ?_ r) (fun c r=>by rw[aj (nown c b r)];exact r) fun c xs r=>by rw[aj (ntup c xs r)];exact r
   rcases hc with rfl | hc
   ·exact hbe
   ·rintro rfl
    rcases he with z | z
    ·exact nown c b hc z
    ·rw[hc] at z;cases z;exact hb rfl
end
structure Un (fs ex:List Addr) (H H':Hp) (h h':Heap):Prop where
 keep:∀ b o,h.get? b=some o→H b=none→b∉fs→b∉ex→h'.get? b=some o
 slot:∀ b o,h.get? b=some o→H b=none→b∈fs→b∉ex→∃ sl,h'.get? b=some { o with slots:=sl }
 free:∀ b o,h.get? b=some o→H b=none→b∉ex→H' b=none
 there:∀ b o,h.get? b=some o→b∉ex→∃ o',h'.get? b=some o'
 tups:∀ b xs,H b=some (.tup xs)→H' b=some (.tup xs)
 frzs:∀ b o u,H b=some (.frz o u)→H' b=some (.frz o u)
 tbls:∀ b ps,H b=some (.tbl ps)→∃ more,H' b=some (.tbl (ps++more))
section
variable {fs fs' ex ex':List Addr} {H H1 H2:Hp} {h h1 h2 h':Heap} {a x e:Addr} {o:HO}
theorem Un.any (u:Un fs ex H H1 h h1) {b:Addr} {ob:Obj} (q:h.get? b=some ob) (n:H b=none) (hx:b∉ex):∃ sl,h1.get? b=some { ob with slots:=sl }:=by
 by_cases hb:b∈fs
 ·exact u.slot b ob q n hb hx
 ·exact⟨ob.slots,u.keep b ob q n hb hx⟩
theorem Un.kept (k:∀ b u,h.get? b=some u→h'.get? b=some u):Un fs ex H H h h':=
 ⟨fun b ob q _ _ _=>k b ob q,fun b ob q _ _ _=>⟨ob.slots,k b ob q⟩,fun _ _ _ n _=>n,fun b ob q _=>⟨ob,k b ob q⟩,fun _ _ q=>q,fun _ _ _ q=>q,fun _ ps q=>⟨#[],by rw[q];simp⟩⟩
theorem Un.refl:Un fs ex H H h h:=Un.kept fun _ _ q=>q
theorem Un.laid (k:∀ b u,h.get? b=some u→h'.get? b=some u) (hp:h.objs.size≤a) (hn:H a=none):Un fs ex H (upd H a o) h h' where
 keep:=fun b u q _ _ _=>k b u q
 slot:=fun b u q _ _ _=>⟨u.slots,k b u q⟩
 free:=fun b u q n _=>by rw[aj (Nat.ne_of_lt (Nat.lt_of_lt_of_le (Heap.lt_size q) hp))];exact n
 there:=fun b u q _=>⟨u,k b u q⟩
 tups:=fun b xs q=>by rw[aj (bx q hn)];exact q
 frzs:=fun b u xs q=>by rw[aj (bx q hn)];exact q
 tbls:=fun b ps q=>⟨#[],by rw[aj (bx q hn),q];simp⟩
theorem Un.write (mu:Mut (H x)) (he:e=x∨H e=some (.own x)) (k:∀ b u,b≠e→h.get? b=some u→h'.get? b=some u) (heo:∃ u,h'.get? e=some u):Un fs ex H (upd H x o) h h':=by
 have hx:∀ b,H b=none→b≠x:=fun b n z=>by subst z;rw[n] at mu;exact mu
 have hb:∀ b,H b=none→b≠e:=fun b n z=>by
  subst z
  rcases he with r | r
  ·exact hx b n r
  ·rw[n] at r;cases r
 have hm:∀ b u,H b=some u→¬ Mut (some u)→b≠x:=fun b u q nm z=>by subst z;rw[q] at mu;exact nm mu
 refine⟨fun b u q n _ _=>k b u (hb b n) q,fun b u q n _ _=>⟨u.slots,k b u (hb b n) q⟩,fun b u q n _=>by rw[aj (hx b n)];exact n,fun b u q _=>?_,
  fun b xs q=>by rw[aj (hm b _ q fun z=>z)];exact q,fun b u xs q=>by rw[aj (hm b _ q fun z=>z)];exact q,fun b ps q=>⟨#[],by rw[aj (hm b _ q fun z=>z),q];simp⟩⟩
 by_cases hbe:b=e
 ·subst hbe;exact heo
 ·exact⟨u,k b u hbe q⟩
end
def trk (h:Heap) (H:Hp):List Addr:=(List.range h.objs.size).filter fun a=>(H a).isSome
def uv (h:Heap) (H:Hp):Heap:=PySem.W.hideAll h (trk h H)
theorem zw (h:Heap) (H:Hp):(uv h H).objs.size=h.objs.size:=PySem.W.hideAll_size _ _
theorem Bc {h:Heap} {H:Hp} {b:Addr} {o:Obj} (e:h.get? b=some o) (n:H b=none):(uv h H).get? b=some o:=
 PySem.W.hideAll_get _ e fun hm=>by
  have q:(H b).isSome=true:=(List.mem_filter.mp hm).2
  rw[n] at q;simp at q
theorem C_ {h:Heap} {H:Hp} {b:Addr} {o:Obj} (e:(uv h H).get? b=some o):h.get? b=some o∧H b=none:=by
 have e':h.get? b=some o:=PySem.W.of_hideAll (trk h H) e
 refine⟨e',?_⟩
 cases q:H b with
 | none=>rfl
 | some x=>
  have hm:b∈trk h H:=List.mem_filter.mpr ⟨List.mem_range.mpr (Heap.lt_size e'),by simp [q]⟩
  have z:(uv h H).get? b=none:=PySem.W.hideAll_none (trk h H) hm
  rw[z] at e;cases e
def DP (g h:Heap) (L:Addr):List (Addr×Obj):=(List.range h.objs.size).filterMap fun a=>if a=L∨(g.get? a).isSome=true then none else (h.get? a).map fun o=>(a,o)
def rest (g h:Heap) (L d:Addr):List (Addr×Obj):=(DP g h L).filter fun p=>decide (p.1≠d)
end L2
namespace L2
open PySem PySem.Spec PyProof.Rows
structure Mod (K:PySem.W.Frag) (mg:Str→Option Value) (base:Heap):Prop where
 kin:K.In base
 glob:base.Ns mainGlobals mg
 blt:∃ mb,base.Ns builtinsNs mb∧∀ x:Str,x≠"__name__"→mb x=bootBuiltins x
 nolimit:base.NoLimit
structure Cx where
 prog:Program
 w:World
 K:PySem.W.Frag
 mg:Str→Option Value
 base:Heap
 A:Around
 N:List Str
 s₀:Shared
 H₀:Hp
 env:Env
 outer:List Env
 stack:List Env
 ex:List Addr
 fn:Str→Bool
 calm:Bool
 pn:List (Addr×Obj)
 xe:Value→Shared→Prop
def frs (l:List Env):List Addr:=l.filterMap (·.frame)
abbrev Cx.fs (X:Cx):List Addr:=frs X.outer
def Vis (sc:Scope) (x:Str):Prop:=sc.names.lookup x=some .local∨sc.names.lookup x=some .cell∨sc.names.lookup x=some .free
def Loc (sc:Scope) (x:Str):Prop:=sc.names.lookup x=some .local∨sc.names.lookup x=some .cell
def Look (env:Env) (h:Heap) (m:Str→Option Value) (x:Str) (u:Value):Prop:=
 (env.kindOf x=some .local∧m x=some u)∨((env.kindOf x=some .cell∨env.kindOf x=some .free)∧∃ c,env.cells.lookup x=some c∧h.IsCell c (some u))
structure Cx.Ok (X:Cx):Prop where
 mod:Mod X.K X.mg X.base
 kind:X.env.scope.kind=.function
 glob:X.env.globals=mainGlobals
 blt:X.env.builtins=builtinsNs
 above:X.s₀.heap.objs.size≤X.env.locals
 inj:∀ x y c,X.env.cells.lookup x=some c→X.env.cells.lookup y=some c→x=y
 has:∀ x,(X.env.kindOf x=some .cell∨X.env.kindOf x=some .free)→∃ c,X.env.cells.lookup x=some c
 cab:∀ x c,X.fn x=true→X.env.cells.lookup x=some c→X.s₀.heap.objs.size≤c
 hd:X.calm=true→X.A.handled=none
 frames:X.A.frames=some X.stack
 stk:X.stack=X.outer∨(X.stack=X.env::X.outer∧X.env.frame=some X.env.locals)
 exf:∀ b∈X.ex,b≠X.env.locals∧∀ x c,X.env.cells.lookup x=some c→c≠b
 bs:∀ b o,X.base.get? b=some o→X.s₀.heap.get? b=some o∧X.H₀ b=none
 bsz:X.base.objs.size≤X.s₀.heap.objs.size
 noex:∀ b o,X.base.get? b=some o→b∉X.ex
 exfs:∀ b∈X.ex,b∉X.fs
 oz:X.s₀.heap.FunFrames X.base X.outer
 frf:∀ b∈X.fs,X.H₀ b=none
structure Inv (X:Cx) (pins:List (Addr×Obj)) (σ:List (Option V)) (H:Hp) (s:Shared):Prop where
 ok:X.Ok
 os:s.os=X.s₀.os
 bare:AllBare s.gens
 base:Un X.fs X.ex X.H₀ H X.s₀.heap s.heap
 loc:∃ m,s.heap.Ns X.env.locals m∧∀ (i:Nat) (x:Str) (v:V),X.N[i]?=some x→σ[i]?=some (some v)→Vis X.env.scope x→∃ u,RelV v u∧Look X.env s.heap m x u
 cell:∀ x c,X.env.cells.lookup x=some c→∃ v,s.heap.IsCell c v
 free:H X.env.locals=none
 freeC:∀ x c,X.env.cells.lookup x=some c→H c=none
 pin:∀ p∈X.pn++pins,s.heap.get? p.1=some p.2∧H p.1=none∧p.1≠X.env.locals∧p.1∉X.fs∧∀ v,p.2.data≠.cell v
 hok:HOk X.prog X.w H s.heap
 len:σ.length=X.N.length
section
variable {X:Cx} {pins:List (Addr×Obj)} {σ:List (Option V)} {H H':Hp} {s:Shared} {h':Heap}
theorem Cx.Ok.IX (ok:X.Ok) {b:Addr} {o:Obj} (e:X.base.get? b=some o):b∉X.fs:=fun hb=>by
 have:=(ok.oz.mem hb).1
 rw[e] at this;cases this
theorem Inv.bs (I:Inv X pins σ H s):∀ b o,X.base.get? b=some o→s.heap.get? b=some o∧H b=none:=fun b o e=>
 ⟨I.base.keep b o (I.ok.bs b o e).1 (I.ok.bs b o e).2 (I.ok.IX e) (I.ok.noex b o e),I.base.free b o (I.ok.bs b o e).1 (I.ok.bs b o e).2 (I.ok.noex b o e)⟩
theorem Inv.bk (I:Inv X pins σ H s):∀ b o,X.base.get? b=some o→s.heap.get? b=some o:=fun b o e=>(I.bs b o e).1
theorem Inv.mod (I:Inv X pins σ H s):Mod X.K X.mg X.base:=I.ok.mod
theorem Inv.kIn (I:Inv X pins σ H s):X.K.In s.heap:=I.ok.mod.kin.keeps I.bk
theorem Inv.lt (I:Inv X pins σ H s):X.env.locals < s.heap.objs.size:=let ⟨_,hn,_⟩:=I.loc;hn.lt
theorem Inv.sz (I:Inv X pins σ H s):X.s₀.heap.objs.size≤s.heap.objs.size:=Nat.le_trans I.ok.above (Nat.le_of_lt I.lt)
theorem Inv.IW (I:Inv X pins σ H s) {a:Addr} (h:s.heap.objs.size≤a):a∉X.fs:=fun hb=>by
 obtain⟨_,o,ho,_⟩:=I.ok.oz.mem hb
 exact absurd (Nat.lt_of_lt_of_le (Heap.lt_size ho) (Nat.le_trans I.sz h)) (Nat.lt_irrefl _)
theorem Inv.cne (I:Inv X pins σ H s):∀ x c,X.env.cells.lookup x=some c→c≠X.env.locals:=fun x c e z=>by
 obtain⟨v,o,ho,hd⟩:=I.cell x c e
 obtain⟨m,⟨o',es,ep,ho',hd',_⟩,_⟩:=I.loc
 rw[z,ho'] at ho;cases ho;rw[hd'] at hd;cases hd
theorem Inv.oz (I:Inv X pins σ H s):s.heap.FunFrames X.base X.outer:=by
 have all:∀ (l:List Env),(∀ b∈frs l,b∈X.fs)→X.s₀.heap.FunFrames X.base l→s.heap.FunFrames X.base l:=by
  intro l
  induction l with
  | nil=>intro _ _;trivial
  | cons env r ih=>
   intro hs hl
   obtain⟨hk,⟨L,o,hf,hn,ho,hd⟩,hr⟩:=hl
   have hL:L∈X.fs:=hs L (by unfold frs;rw[List.filterMap_cons,hf];exact List.mem_cons_self)
   obtain⟨sl,e⟩:=I.base.slot L o ho (I.ok.frf L hL) hL fun z=>I.ok.exfs L z hL
   exact⟨hk,⟨L,_,hf,hn,e,hd⟩,ih (fun b hb=>hs b (by unfold frs;rw[List.filterMap_cons,hf];exact List.mem_cons_of_mem _ hb)) hr⟩
 exact all X.outer (fun _ hb=>hb) I.ok.oz
theorem Inv.stack (I:Inv X pins σ H s):s.heap.FunFrames X.base X.stack:=by
 rcases I.ok.stk with e | ⟨e,hf⟩
 ·rw[e];exact I.oz
 ·rw[e]
  obtain⟨m,hn,_⟩:=I.loc
  refine .cons (by rw[I.ok.kind];decide) hf hn ?_ I.oz
  exact Heap.get?_none_of_le (Nat.le_trans I.ok.bsz I.ok.above)
theorem Inv.tD (I:Inv X pins σ H s):∀ b∈frs X.stack,b∈X.env.locals::X.fs:=fun b hb=>by
 rcases I.ok.stk with e | ⟨e,hf⟩
 ·rw[e] at hb;exact List.mem_cons_of_mem _ hb
 ·rw[e] at hb
  unfold frs at hb
  rw[List.filterMap_cons,hf] at hb
  exact hb
theorem Inv.xY (I:Inv X pins σ H s):∀ b∈frs X.stack,H b=none:=fun b hb=>by
 rcases List.mem_cons.mp (I.tD b hb) with e | hb
 ·rw[e];exact I.free
 ·obtain⟨_,o,ho,_⟩:=I.ok.oz.mem hb
  exact I.base.free b o ho (I.ok.frf b hb) fun z=>I.ok.exfs b z hb
theorem Inv.step {g':Array GenState} {t':Nat} {d':Drawn} {ch:List Addr} (I:Inv X pins σ H s)
  (hch:∀ b∈ch,(b∈X.ex∨X.s₀.heap.objs.size≤b)∧b≠X.env.locals∧(∀ x c,X.env.cells.lookup x=some c→c≠b)∧∀ p∈X.pn++pins,p.1≠b)
  (keep:∀ b o,b≠X.env.locals→b∉X.fs→b∉ch→s.heap.get? b=some o→H b=none→h'.get? b=some o)
  (slot:∀ b o,b≠X.env.locals→b∈X.fs→b∉ch→s.heap.get? b=some o→H b=none→∃ sl,h'.get? b=some { o with slots:=sl }) (free:∀ b o,b∉ch→s.heap.get? b=some o→H b=none→H' b=none)
  (there:∀ b o,b∉ch→s.heap.get? b=some o→∃ o',h'.get? b=some o')
  (tups:∀ b xs,H b=some (.tup xs)→H' b=some (.tup xs)) (frzs:∀ b o u,H b=some (.frz o u)→H' b=some (.frz o u)) (tbls:∀ b ps,H b=some (.tbl ps)→∃ more,H' b=some (.tbl (ps++more)))
  (ns:∀ m,s.heap.Ns X.env.locals m→h'.Ns X.env.locals m) (hok:HOk X.prog X.w H' h') (hg:AllBare g') :
  Inv X pins σ H' { s with heap:=h',gens:=g',drawn:=d',toks:=t' }:=by
 have neL:∀ b o,X.s₀.heap.get? b=some o→b≠X.env.locals:=fun b o e=>Nat.ne_of_lt (Nat.lt_of_lt_of_le (Heap.lt_size e) I.ok.above)
 have neC:∀ b o,X.s₀.heap.get? b=some o→b∉X.ex→b∉ch:=fun b o e hx hb=>by
  rcases(hch b hb).1 with z | z
  ·exact hx z
  ·exact absurd (Nat.lt_of_lt_of_le (Heap.lt_size e) z) (Nat.lt_irrefl _)
 have cellK:∀ x c,X.env.cells.lookup x=some c→∀ v,s.heap.IsCell c v→h'.IsCell c v:=fun x c e v ⟨o,ho,hd⟩=>by
  have nch:c∉ch:=fun z=>(hch c z).2.2.1 x c e rfl
  by_cases hc:c∈X.fs
  ·obtain⟨sl,q⟩:=slot c o (I.cne x c e) hc nch ho (I.freeC x c e)
   exact⟨_,q,hd⟩
  ·exact⟨o,keep c o (I.cne x c e) hc nch ho (I.freeC x c e),hd⟩
 refine⟨I.ok,I.os,hg,⟨fun b o e n hb hx=>?_,fun b o e n hb hx=>?_,fun b o e n hx=>?_,fun b o e hx=>?_,fun b xs e=>tups b xs (I.base.tups b xs e),fun b o xs e=>frzs b o xs (I.base.frzs b o xs e),fun b ps e=>?_⟩,?_,fun x c e=>?_,?_,fun x c e=>?_,fun p hp=>?_,hok,I.len⟩
 ·exact keep b o (neL b o e) hb (neC b o e hx) (I.base.keep b o e n hb hx) (I.base.free b o e n hx)
 ·obtain⟨sl,e1⟩:=I.base.slot b o e n hb hx
  obtain⟨sl',e2⟩:=slot b _ (neL b o e) hb (neC b o e hx) e1 (I.base.free b o e n hx)
  exact⟨sl',e2⟩
 ·obtain⟨o',e1⟩:=I.base.there b o e hx
  exact free b o' (neC b o e hx) e1 (I.base.free b o e n hx)
 ·obtain⟨o',e1⟩:=I.base.there b o e hx
  exact there b o' (neC b o e hx) e1
 ·obtain⟨m1,e1⟩:=I.base.tbls b ps e
  obtain⟨m2,e2⟩:=tbls b _ e1
  exact⟨m1++m2,by rw[e2,Array.append_assoc]⟩
 ·obtain⟨m,hn,hl⟩:=I.loc
  refine⟨m,ns m hn,fun i x v e1 e2 e3=>?_⟩
  obtain⟨u,r,l⟩:=hl i x v e1 e2 e3
  refine⟨u,r,?_⟩
  rcases l with l | ⟨k,c,e,z⟩
  ·exact .inl l
  ·exact .inr ⟨k,c,e,cellK x c e _ z⟩
 ·obtain⟨v,z⟩:=I.cell x c e
  exact⟨v,cellK x c e v z⟩
 ·obtain⟨m,⟨o,_,_,ho,_⟩,_⟩:=I.loc
  exact free _ o (fun z=>(hch _ z).2.1 rfl) ho I.free
 ·obtain⟨v,o,ho,hd⟩:=I.cell x c e
  exact free c o (fun z=>(hch c z).2.2.1 x c e rfl) ho (I.freeC x c e)
 ·obtain⟨e,n,ne,nf,d⟩:=I.pin p hp
  have nch:p.1∉ch:=fun z=>(hch p.1 z).2.2.2 p hp rfl
  exact⟨keep p.1 p.2 ne nf nch e n,free p.1 p.2 nch e n,ne,nf,d⟩
theorem Inv.un {t':Nat} (I:Inv X pins σ H s) (u:Un X.fs [] H H' s.heap h') (hok:HOk X.prog X.w H' h'):Inv X pins σ H' { s with heap:=h',toks:=t' }:=by
 obtain⟨m,⟨o,es,ep,ho,r⟩,_⟩:=id I.loc
 obtain⟨sl,hL⟩:=u.any ho I.free (by simp)
 exact I.step (g':=s.gens) (d':=s.drawn) (ch:=[]) (fun _ z=>nomatch z) (fun b o _ hb _ e n=>u.keep b o e n hb (by simp)) (fun b o _ hb _ e n=>u.slot b o e n hb (by simp)) (fun b o _ e n=>u.free b o e n (by simp)) (fun b o _ e=>u.there b o e (by simp)) u.tups u.frzs u.tbls (fun m' hm=>by
  obtain⟨o',es',ep',ho',r'⟩:=hm
  rw[ho] at ho';cases ho'
  exact⟨_,es',ep',hL,r'⟩) hok I.bare
theorem Inv.call {g':Array GenState} {t':Nat} {d':Drawn} {ch:List Addr} (I:Inv X pins σ H s) (u:Un (frs X.stack) ch H H' s.heap h') (hok:HOk X.prog X.w H' h') (hg:AllBare g')
  (hch:∀ b∈ch,(b∈X.ex∨X.s₀.heap.objs.size≤b)∧b≠X.env.locals∧(∀ x c,X.env.cells.lookup x=some c→c≠b)∧∀ p∈X.pn++pins,p.1≠b) :
  Inv X pins σ H' { s with heap:=h',gens:=g',drawn:=d',toks:=t' }:=by
 obtain⟨m,⟨o,es,ep,ho,r⟩,_⟩:=id I.loc
 obtain⟨sl,hL⟩:=u.any ho I.free fun z=>(hch _ z).2.1 rfl
 exact I.step (ch:=ch) hch (fun b o hL hb hc e n=>u.keep b o e n (fun z=>(List.mem_cons.mp (I.tD b z)).elim hL hb) hc) (fun b o _ _ hc e n=>u.any e n hc) (fun b o hc e n=>u.free b o e n hc) (fun b o hc e=>u.there b o e hc) u.tups u.frzs u.tbls (fun m' hm=>by
  obtain⟨o',es',ep',ho',r'⟩:=hm
  rw[ho] at ho';cases ho'
  exact⟨_,es',ep',hL,r'⟩) hok hg
theorem Inv.turned {t':Nat} {it:Addr} (I:Inv X pins σ H s) (k:∀ b o,b≠it→s.heap.get? b=some o→h'.get? b=some o) (hn:H it=none) (hL:it≠X.env.locals)
  (h1:it∈X.ex∨X.s₀.heap.objs.size≤it) (h2:∀ x c,X.env.cells.lookup x=some c→c≠it) (h3:∀ p∈X.pn++pins,p.1≠it):Inv X pins σ H { s with heap:=h',toks:=t' }:=by
 have nit:∀ b u,H b=some u→b≠it:=fun b u e z=>by rw[z,hn] at e;cases e
 refine I.step (g':=s.gens) (d':=s.drawn) (ch:=[it]) (fun b hb=>?_) (fun b o _ _ hc e _=>k b o (fun z=>hc (by simp [z])) e) (fun b o _ _ hc e _=>⟨o.slots,k b o (fun z=>hc (by simp [z])) e⟩) (fun _ _ _ _ n=>n)
  (fun b o hc e=>⟨o,k b o (fun z=>hc (by simp [z])) e⟩) (fun _ _ e=>e) (fun _ _ _ e=>e) (fun b ps e=>⟨#[],by rw[e];simp⟩) (fun m hm=>?_) (fun b u e=>?_) I.bare
 ·have e:b=it:=by simpa using hb
  subst e
  exact⟨h1,hL,h2,h3⟩
 ·obtain⟨o,es,ep,ho,r⟩:=hm
  exact⟨o,es,ep,k _ o (Ne.symm hL) ho,r⟩
 ·refine(I.hok b u e).rL (fun c v hc q=>k c v ?_ q) (fun _ q=>q) fun _ _ q=>q
  rcases hc with z | z
  ·rw[z];exact nit b u e
  ·exact nit c _ z
theorem Inv.tok (I:Inv X pins σ H s) (t:Nat):Inv X pins σ H { s with toks:=t }:=I.un (h':=s.heap) (t':=t) Un.refl I.hok
theorem Inv.kept {t':Nat} (I:Inv X pins σ H s) (k:∀ b u,s.heap.get? b=some u→h'.get? b=some u):Inv X pins σ H { s with heap:=h',toks:=t' }:=I.un (Un.kept k) (I.hok.kept k)
theorem Inv.laid {a:Addr} {o:HO} {t':Nat} (I:Inv X pins σ H s) (k:∀ b u,s.heap.get? b=some u→h'.get? b=some u) (hp:s.heap.objs.size≤a) (new:eO X.prog X.w (upd H a o) h' a o) :
  Inv X pins σ (upd H a o) { s with heap:=h',toks:=t' }:=I.un (Un.laid k hp (I.hok.fresh hp)) (I.hok.laid k hp new)
theorem Inv.write {x e:Addr} {o:HO} {t':Nat} (I:Inv X pins σ H s) (mu:Mut (H x)) (he:e=x∨H e=some (.own x)) (k:∀ b u,b≠e→s.heap.get? b=some u→h'.get? b=some u) (heo:∃ u,h'.get? e=some u)
  (new:eO X.prog X.w (upd H x o) h' x o):Inv X pins σ (upd H x o) { s with heap:=h',toks:=t' }:=I.un (Un.write mu he k heo) (I.hok.write mu he k heo new)
theorem Inv.jx {pins':List (Addr×Obj)} (I:Inv X pins σ H s) (h:∀ p∈pins',s.heap.get? p.1=some p.2∧H p.1=none∧p.1≠X.env.locals∧p.1∉X.fs∧∀ v,p.2.data≠.cell v):Inv X pins' σ H s:=
 ⟨I.ok,I.os,I.bare,I.base,I.loc,I.cell,I.free,I.freeC,fun p hp=>(List.mem_append.mp hp).elim (fun z=>I.pin p (List.mem_append_left _ z)) (h p),I.hok,I.len⟩
theorem vF {N:List Str} (hN:N.Nodup) {i j:Nat} {x:Str} (a:N[i]?=some x) (b:N[j]?=some x):i=j:=by
 obtain⟨h1,e1⟩:=List.getElem?_eq_some_iff.mp a
 obtain⟨h2,e2⟩:=List.getElem?_eq_some_iff.mp b
 exact(List.getElem_inj hN).mp (e1.trans e2.symm)
theorem sj {M:Model} {A:Around} {E:Value→Shared→Prop} {i:Nat} {x:Str} {v:V} {u:Value} {Q:Unit→Shared→Prop} (I:Inv X pins σ H s) (hN:X.N.Nodup) (hi:X.N[i]?=some x) (hx:Loc X.env.scope x) (r:RelV v u)
  (h:∀ s',Inv X pins (σ.set i (some v)) H s'→(∃ a,Heap.SameBut a s.heap s'.heap∧(a=X.env.locals∨X.env.cells.lookup x=some a))→Q () s') (hf:X.fn x=true∨X.env.scope.names.lookup x=some .local:=by first | exact .inl rfl | exact .inr rfl | assumption):wpAny M A (storeName X.env x u) Q E s:=by
 obtain⟨m,hn,hl⟩:=id I.loc
 have hcls:(X.env.scope.kind == .class || (X.env.scope.kind == .module && X.env.locals != X.env.globals))=false:=by rw[I.ok.kind];rfl
 have hiσ:i < σ.length:=by rw[I.len];exact(List.getElem?_eq_some_iff.mp hi).1
 have cne:=I.cne
 have tracked:∀ {a:Addr} {h':Heap},(∃ o,s.heap.get? a=some o∧H a=none)→Heap.SameBut a s.heap h'→HOk X.prog X.w H h':=fun {a h'} ha hs b ob e=>by
  obtain⟨_,_,hfree⟩:=ha
  refine(I.hok b ob e).rL (fun c w' hc q=>(hs.2 c ?_).trans q) (fun _ q=>q) fun _ _ q=>q
  rintro rfl
  rcases hc with rfl | hc
  ·rw[hfree] at e;cases e
  ·rw[hfree] at hc;cases hc
 rcases hx with hk | hk
 ·refine wpAny_storeName_local hk hn (fun h' hn' hs=>?_) hcls
  obtain⟨oL,_,_,hoL,_⟩:=id hn
  refine h _ ⟨I.ok,I.os,I.bare,⟨fun b o e n hb hx=>?_,fun b o e n hb hx=>?_,I.base.free,fun b o e hx=>?_,I.base.tups,I.base.frzs,I.base.tbls⟩,⟨_,hn',fun j y v' e1 e2 e3=>?_⟩,fun y c e=>?_,I.free,I.freeC,fun p hp=>?_,tracked ⟨oL,hoL,I.free⟩ hs,by simpa using I.len⟩ ⟨_,hs,.inl rfl⟩
  ·exact(hs.2 b (Nat.ne_of_lt (Nat.lt_of_lt_of_le (Heap.lt_size e) I.ok.above))).trans (I.base.keep b o e n hb hx)
  ·obtain⟨sl,e1⟩:=I.base.slot b o e n hb hx
   exact⟨sl,(hs.2 b (Nat.ne_of_lt (Nat.lt_of_lt_of_le (Heap.lt_size e) I.ok.above))).trans e1⟩
  ·obtain⟨o',e1⟩:=I.base.there b o e hx
   exact⟨o',(hs.2 b (Nat.ne_of_lt (Nat.lt_of_lt_of_le (Heap.lt_size e) I.ok.above))).trans e1⟩
  ·by_cases hj:j=i
   ·subst hj
    rw[hi] at e1;cases e1
    rw[List.getElem?_set_self hiσ] at e2
    cases e2
    exact⟨u,r,.inl ⟨hk,by simp⟩⟩
   ·rw[List.getElem?_set_ne (Ne.symm hj)] at e2
    obtain⟨u',r',q⟩:=hl j y v' e1 e2 e3
    refine⟨u',r',?_⟩
    rcases q with ⟨k,e⟩ | ⟨k,c,e,z⟩
    ·refine .inl ⟨k,?_⟩
     have:y≠x:=fun e=>hj (vF hN e1 (e ▸ hi))
     simp [this,e]
    ·exact .inr ⟨k,c,e,z.sameBut hs (cne y c e)⟩
  ·obtain⟨w',z⟩:=I.cell y c e
   exact⟨w',z.sameBut hs (cne y c e)⟩
  ·obtain⟨e,n,ne,nf,d⟩:=I.pin p hp
   exact⟨(hs.2 p.1 ne).trans e,n,ne,nf,d⟩
 ·have hfn:X.fn x=true:=by
   rcases hf with z | z
   ·exact z
   ·rw[z] at hk;cases hk
  obtain⟨c,hc⟩:=I.ok.has x (.inl hk)
  obtain⟨w',z⟩:=I.cell x c hc
  refine wpAny_storeName_cell I.ok.kind hk hc z (fun h' hc' hs=>?_)
  obtain⟨oc,hoc,hocd⟩:=id z
  refine h { s with heap:=h' } ⟨I.ok,I.os,I.bare,⟨fun b o e n hb hx=>?_,fun b o e n hb hx=>?_,I.base.free,fun b o e hx=>?_,I.base.tups,I.base.frzs,I.base.tbls⟩,⟨m,hn.sameBut hs (Ne.symm (cne x c hc)),fun j y v' e1 e2 e3=>?_⟩,fun y c' e=>?_,I.free,I.freeC,fun p hp=>?_,tracked ⟨oc,hoc,I.freeC x c hc⟩ hs,by simpa using I.len⟩ ⟨c,hs,.inr hc⟩
  ·exact(hs.2 b (Nat.ne_of_lt (Nat.lt_of_lt_of_le (Heap.lt_size e) (I.ok.cab x c hfn hc)))).trans (I.base.keep b o e n hb hx)
  ·obtain⟨sl,e1⟩:=I.base.slot b o e n hb hx
   exact⟨sl,(hs.2 b (Nat.ne_of_lt (Nat.lt_of_lt_of_le (Heap.lt_size e) (I.ok.cab x c hfn hc)))).trans e1⟩
  ·obtain⟨o',e1⟩:=I.base.there b o e hx
   exact⟨o',(hs.2 b (Nat.ne_of_lt (Nat.lt_of_lt_of_le (Heap.lt_size e) (I.ok.cab x c hfn hc)))).trans e1⟩
  ·by_cases hj:j=i
   ·subst hj
    rw[hi] at e1;cases e1
    rw[List.getElem?_set_self hiσ] at e2
    cases e2
    exact⟨u,r,.inr ⟨.inl hk,c,hc,hc'⟩⟩
   ·rw[List.getElem?_set_ne (Ne.symm hj)] at e2
    obtain⟨u',r',q⟩:=hl j y v' e1 e2 e3
    refine⟨u',r',?_⟩
    rcases q with q | ⟨k,c',e,z'⟩
    ·exact .inl q
    ·refine .inr ⟨k,c',e,z'.sameBut hs ?_⟩
     rintro rfl
     exact hj (vF hN e1 (I.ok.inj _ _ _ e hc ▸ hi))
  ·by_cases hcc:c'=c
   ·subst hcc;exact⟨_,hc'⟩
   ·obtain⟨w2,z2⟩:=I.cell y c' e
    exact⟨w2,z2.sameBut hs hcc⟩
  ·obtain⟨e,n,ne,nf,d⟩:=I.pin p hp
   refine⟨(hs.2 p.1 ?_).trans e,n,ne,nf,d⟩
   intro q
   rw[q,hoc] at e
   have q':oc=p.2:=Option.some.inj e
   exact d w' (by rw[← q'];exact hocd)
theorem mO {M:Model} {A:Around} {E:Value→Shared→Prop} {i:Nat} {x:Str} {v:V} {u:Value} {Q:Unit→Shared→Prop} (I:Inv X pins σ H s) (hN:X.N.Nodup) (hi:X.N[i]?=some x) (hx:Loc X.env.scope x) (r:RelV v u)
  (h:∀ s',Inv X pins (σ.set i (some v)) H s'→Q () s') (hf:X.fn x=true∨X.env.scope.names.lookup x=some .local:=by first | exact .inl rfl | exact .inr rfl | assumption):wpAny M A (storeName X.env x u) Q E s:=
 sj I hN hi hx r (fun s' I' _=>h s' I') hf
theorem Inv.Eu {s':Shared} {ch:List Addr} (I:Inv X pins σ H s) (ho:s'.os=s.os) (u:Un (frs X.stack) ch H H' s.heap s'.heap) (hok:HOk X.prog X.w H' s'.heap) (hg:AllBare s'.gens)
  (hch:∀ b∈ch,(b∈X.ex∨X.s₀.heap.objs.size≤b)∧b≠X.env.locals∧(∀ x c,X.env.cells.lookup x=some c→c≠b)∧∀ p∈X.pn++pins,p.1≠b):Inv X pins σ H' s':=by
 obtain⟨h',g',d',t',o'⟩:=s'
 have e:o'=s.os:=ho
 subst e
 exact I.call (g':=g') (t':=t') (d':=d') u hok hg hch
end
abbrev XK:=Value→Option Addr→Hp→Prop
abbrev St:=List (Option V)
abbrev VK:=V→Hp→Prop
abbrev TE:=St→Hp→VK→Prop
abbrev TT:=St→Hp→(Bool→Hp→Prop)→Prop
abbrev TA:=St→Hp→(List V→Hp→Prop)→Prop
structure Ends where
 nx:St→Hp→Prop
 rt:VK
 bk:St→Hp→Prop:=fun _ _=>False
 ct:St→Hp→Prop:=fun _ _=>False
abbrev TS:=Ends→St→Hp→Prop
def EP (X:Cx) (pins:List (Addr×Obj)) (σ:St) (Q:VK) (u:Value) (s':Shared):Prop:=∃ v H',Inv X pins σ H' s'∧RelV v u∧Q v H'
def TP (X:Cx) (pins:List (Addr×Obj)) (σ:St) (Q:Bool→Hp→Prop) (b:Bool) (s':Shared):Prop:=∃ H',Inv X pins σ H' s'∧Q b H'
def AP (X:Cx) (pins:List (Addr×Obj)) (σ:St) (Q:List V→Hp→Prop) (us:List Value) (s':Shared):Prop:=∃ vs H',Inv X pins σ H' s'∧Vals vs us∧Q vs H'
def SP (X:Cx) (pins:List (Addr×Obj)) (D:Ends) (f:Flow) (s':Shared):Prop:=
 match f with
 | .next=>∃ σ' H',Inv X pins σ' H' s'∧D.nx σ' H'
 | .brk=>∃ σ' H',Inv X pins σ' H' s'∧D.bk σ' H'
 | .cont=>∃ σ' H',Inv X pins σ' H' s'∧D.ct σ' H'
 | .ret u=>∃ v σ' H',Inv X pins σ' H' s'∧RelV v u∧D.rt v H'
def PE (X:Cx) (e:Expr) (t:TE):Prop:=
 ∀ (pins:List (Addr×Obj)) (s:Shared) (σ:St) (H:Hp) (Q:VK),Inv X pins σ H s→t σ H Q→wpAny (model X.prog X.w) X.A (eval e X.env) (EP X pins σ Q) X.xe s
def PT (X:Cx) (e:Expr) (t:TT):Prop:=
 ∀ (pins:List (Addr×Obj)) (s:Shared) (σ:St) (H:Hp) (Q:Bool→Hp→Prop),Inv X pins σ H s→t σ H Q→wpAny (model X.prog X.w) X.A (isTrue e X.env (eval e X.env)) (TP X pins σ Q) X.xe s
def PW (X:Cx) (e:Expr) (t:TT):Prop:=
 ∀ (whole:Sem Value) (pins:List (Addr×Obj)) (s:Shared) (σ:St) (H:Hp) (Q:Bool→Hp→Prop),Inv X pins σ H s→t σ H Q→wpAny (model X.prog X.w) X.A (isTrue e X.env whole) (TP X pins σ Q) X.xe s
theorem PW.pt {X:Cx} {e:Expr} {t:TT} (h:PW X e t):PT X e t:=h _
def PA (X:Cx) (es:List Expr) (t:TA):Prop:=
 ∀ (pos:Pos) (pins:List (Addr×Obj)) (s:Shared) (σ:St) (H:Hp) (Q:List V→Hp→Prop),Inv X pins σ H s→t σ H Q→wpAny (model X.prog X.w) X.A (spliced (backTo pos (starEach es X.env))) (AP X pins σ Q) X.xe s
def PS (X:Cx) (st:Stmt) (t:TS):Prop:=
 ∀ (pins:List (Addr×Obj)) (s:Shared) (σ:St) (H:Hp) (D:Ends),Inv X pins σ H s→t D σ H→wpAny (model X.prog X.w) X.A (exec st X.env) (SP X pins D) X.xe s
def PSs (X:Cx) (st:List Stmt) (t:TS):Prop:=
 ∀ (pins:List (Addr×Obj)) (s:Shared) (σ:St) (H:Hp) (D:Ends),Inv X pins σ H s→t D σ H→wpAny (model X.prog X.w) X.A (execs st X.env) (SP X pins D) X.xe s
theorem thn {α:Type} {t:Sem α} {Q Q':α→Shared→Prop} {M:Model} {A:Around} {E:Value→Shared→Prop} {s:Shared} (h:wpAny M A t Q E s) (hQ:∀ a s,Q a s→Q' a s):wpAny M A t Q' E s:=wpAny_mono h hQ fun _ _ x=>x
end L2
namespace L2
open PySem PySem.Spec PyProof.Rows
section
variable {X:Cx}
theorem bin {a b:Expr} {ta tb:TE} (ha:PE X a ta) (hb:PE X b tb) {pins:List (Addr×Obj)} {s:Shared} {σ:St} {H:Hp} {R:V→V→Hp→Prop} (I:Inv X pins σ H s) (h:ta σ H fun x H1=>tb σ H1 fun y H2=>R x y H2)
  {α:Type} {Q:α→Shared→Prop} {f:Value→Value→Sem α}
  (hf:∀ v u s2 x y H2,Inv X pins σ H2 s2→RelV x v→RelV y u→R x y H2→wpAny (model X.prog X.w) X.A (f v u) Q X.xe s2) :
  wpAny (model X.prog X.w) X.A (eval a X.env) (fun v s₁=>wpAny (model X.prog X.w) X.A (eval b X.env) (fun u s₂=>wpAny (model X.prog X.w) X.A (f v u) Q X.xe s₂) X.xe s₁) X.xe s:=by
 refine thn (ha pins s σ H _ I h) fun v s1 ⟨x,H1,I1,r1,q1⟩=>?_
 refine thn (hb pins s1 σ H1 _ I1 q1) fun u s2 ⟨y,H2,I2,r2,q2⟩=>?_
 exact hf v u s2 x y H2 I2 r1 r2 q2
def fH (i:Nat):TE:=fun σ H Q=>∃ v,σ[i]?=some (some v)∧Q v H
def tC (v:V):TE:=fun _ H Q=>Q v H
theorem qy {i:Nat} {x:Str} {pos:Pos} (hN:X.N[i]?=some x) (hv:Vis X.env.scope x) (hd:(x == ("__debug__":Str))=false:=by decide) (hcd:(x == ("__classdict__":Str))=false:=by decide):PE X (.Name x pos) (fH i):=by
 intro pins s σ H Q I h
 obtain⟨v,e,h⟩:=h
 obtain⟨m,hn,hl⟩:=I.loc
 obtain⟨u,r,l⟩:=hl i x v hN e hv
 have fin:EP X pins σ Q u s:=⟨v,H,I,r,h⟩
 rcases l with ⟨hk,hm⟩ | ⟨hk,c,hc,hcell⟩
 ·exact wpAny_Name (wpAny_loadName_local I.ok.kind hk hn hm fin) hd
 ·rcases hk with hk | hk
  ·exact wpAny_Name (wpAny_loadName_cell I.ok.kind hk hc hcell fin) hd
  ·exact wpAny_Name (wpAny_loadName_free I.ok.kind hk hc hcell fin hcd) hd
theorem wZ {i j pos}:PE X (.Constant (.int i) j pos) (tC (.int i)):=fun _ _ _ H _ I h=>wpAny_Constant_int ⟨.int i,H,I.tok _,⟨_,rfl⟩,h⟩
theorem G_ {b j pos}:PE X (.Constant (.bool b) j pos) (tC (.bl b)):=fun _ _ _ H _ I h=>Constant_bool ⟨.bl b,H,I,rfl,h⟩
theorem Ff {x j pos}:PE X (.Constant (.str x) j pos) (tC (.str x)):=fun _ _ _ H _ I h=>Calls.Constant_str ⟨.str x,H,I.tok _,⟨_,rfl⟩,h⟩
def Gl (X:Cx) (x:Str):Prop:=X.env.kindOf x=some .globalImplicit
theorem nC {E:Value→Shared→Prop} {pins:List (Addr×Obj)} {s:Shared} {σ:St} {H:Hp} {x:Str} {u:Value} {pos:Pos} {Q:Value→Shared→Prop} (I:Inv X pins σ H s) (hg:Gl X x) (hm:X.mg x=some u) (h:Q u s)
  (hd:(x == ("__debug__":Str))=false:=by decide):wpAny (model X.prog X.w) X.A (eval (.Name x pos) X.env) Q E s:=
 Calls.Name_function_global I.ok.kind hg (Calls.loadGlobal_global (by rw[I.ok.glob];exact I.mod.glob.keeps I.bk) hm h) hd
theorem kq {E:Value→Shared→Prop} {pins:List (Addr×Obj)} {s:Shared} {σ:St} {H:Hp} {x:Str} {u:Value} {pos:Pos} {Q:Value→Shared→Prop} (I:Inv X pins σ H s) (hg:Gl X x) (hm:X.mg x=none) (hv:bootBuiltins x=some u) (h:Q u s)
  (hn:x≠"__name__":=by decide) (hd:(x == ("__debug__":Str))=false:=by decide):wpAny (model X.prog X.w) X.A (eval (.Name x pos) X.env) Q E s:=by
 obtain⟨mb,h1,h2⟩:=I.mod.blt
 exact Calls.Name_function_global I.ok.kind hg (Calls.loadGlobal_builtin (by rw[I.ok.glob];exact I.mod.glob.keeps I.bk) hm (by rw[I.ok.blt];exact h1.keeps I.bk) ((h2 x hn).trans hv) h) hd
theorem yb {x:Str} {v:V} {u:Value} {pos:Pos} (hg:Gl X x) (hm:X.mg x=some u) (r:RelV v u) (hd:(x == ("__debug__":Str))=false:=by decide):PE X (.Name x pos) (tC v):=
 fun _ _ _ H _ I h=>nC I hg hm ⟨v,H,I,r,h⟩ hd
theorem CT {x:Str} {v:V} {u:Value} {pos:Pos} (hg:Gl X x) (hm:X.mg x=none) (hv:bootBuiltins x=some u) (r:RelV v u) (hn:x≠"__name__":=by decide) (hd:(x == ("__debug__":Str))=false:=by decide):PE X (.Name x pos) (tC v):=
 fun _ _ _ H _ I h=>kq I hg hm hv ⟨v,H,I,r,h⟩ hn hd
def t2I (ta tb:TE) (k:Int→Int→Hp→Prop):St→Hp→Prop:=fun σ H=>ta σ H fun x H1=>tb σ H1 fun y H2=>∃ i j,x=.int i∧y=.int j∧k i j H2
def JT (ta tb:TE):TE:=fun σ H Q=>t2I ta tb (fun i j H2=>Q (.int (i + j)) H2) σ H
def JL (ta tb:TE):TE:=fun σ H Q=>t2I ta tb (fun i j H2=>Q (.int (i - j)) H2) σ H
def JN (ta tb:TE):TE:=fun σ H Q=>t2I ta tb (fun i j H2=>(-(2 ^ 64) < i∧i < 2 ^ 64)∧Q (.int (i * j)) H2) σ H
variable {a b:Expr} {ta tb:TE} {pos:Pos}
def PC (X:Cx) (op:CmpOp) (a b:Expr) (t:TE):Prop:=
 ∀ (pins:List (Addr×Obj)) (s:Shared) (σ:St) (H:Hp) (Q:VK),Inv X pins σ H s→t σ H Q→
  wpAny (model X.prog X.w) X.A (eval a X.env) (fun v s₁=>wpAny (model X.prog X.w) X.A (eval b X.env) (fun u s₂=>wpAny (model X.prog X.w) X.A (compareOp op v u) (EP X pins σ Q) X.xe s₂) X.xe s₁) X.xe s
def yY (p:Int→Int→Bool) (ta tb:TE):TE:=fun σ H Q=>t2I ta tb (fun i j H2=>Q (.bl (p i j)) H2) σ H
abbrev tLt:TE→TE→TE:=yY fun i j=>decide (i < j)
abbrev tLe:TE→TE→TE:=yY fun i j=>decide (i≤j)
abbrev tGt:TE→TE→TE:=yY fun i j=>decide (j < i)
abbrev tGe:TE→TE→TE:=yY fun i j=>decide (j≤i)
abbrev JP:TE→TE→TE:=yY fun i j=>decide (i=j)
abbrev JM:TE→TE→TE:=yY fun i j=>!decide (i=j)
def JO (ta:TE):TE:=fun σ H Q=>ta σ H fun x H1=>Q (.bl (decide (x=.non))) H1
def Js (ta:TE):TE:=fun σ H Q=>ta σ H fun x H1=>Q (.bl (!decide (x=.non))) H1
def tB (t:TE):TT:=fun σ H Q=>t σ H fun x H1=>∃ c,x=.bl c∧Q c H1
theorem IQ {op:CmpOp} {t:TE} (h:PC X op a b t) (h1:behindInMarks op b=false:=by first | exact nobehind _ (by decide) (by decide) | rfl):PT X (.Compare a [op] [b] pos) (tB t):=by
 intro pins s σ H Q I hw
 refine wpAny_isTrue_Compare1 (thn (h pins s σ H _ I hw) fun v s1 h1=>thn h1 fun u s2 h2=>thn h2 fun c s3 ⟨x,H1,I1,r1,q1⟩=>?_) h1
 obtain⟨d,rfl,q⟩:=q1
 cases r1
 exact wpAny_truthy_bool ⟨H1,I1,q⟩
theorem EZ {e:Expr} {t:TE} (h:PE X e t) (he:∀ whole,isTrue e X.env whole=(do let v ← whole;standAt e.pos;holding [v] (truthy v)):=by intro _;rfl):PT X e (tB t):=by
 intro pins s σ H Q I hw
 refine isTrue_plain (thn (h pins s σ H _ I hw) fun v s1 ⟨x,H1,I1,r1,q1⟩=>?_) (he _)
 obtain⟨d,rfl,q⟩:=q1
 cases r1
 exact wpAny_truthy_bool ⟨H1,I1,q⟩
variable {tA tB':TT} {rest:List Expr}
def EH (t u:TT):TT:=fun σ H Q=>t σ H fun c H1=>if c=true then u σ H1 Q else Q false H1
def tOr (t u:TT):TT:=fun σ H Q=>t σ H fun c H1=>if c=true then Q true H1 else u σ H1 Q
def EG (t:TT):TT:=fun σ H Q=>t σ H fun c H1=>Q (!c) H1
theorem CF (ha:PT X a tA):PW X (.BoolOp .And [a] pos) tA:=by
 intro wh pins s σ H Q I h
 refine isTrue_and (thn (ha pins s σ H Q I h) fun c s1 e=>?_)
 cases c with
 | true=>exact isTrue_and_nil e
 | false=>exact e
theorem EX (ha:PT X a tA):PW X (.BoolOp .Or [a] pos) tA:=by
 intro wh pins s σ H Q I h
 refine isTrue_or (thn (ha pins s σ H Q I h) fun c s1 e=>?_)
 cases c with
 | false=>exact isTrue_or_nil e
 | true=>exact e
theorem EY (ha:PT X a tA) (hb:PW X (.BoolOp .And (b::rest) pos) tB'):PW X (.BoolOp .And (a::b::rest) pos) (EH tA tB'):=by
 intro wh pins s σ H Q I h
 refine isTrue_and (thn (ha pins s σ H _ I h) fun c s1 ⟨H1,I1,q1⟩=>?_)
 cases c with
 | true=>exact hb wh pins s1 σ H1 Q I1 q1
 | false=>exact⟨H1,I1,q1⟩
theorem G3 (ha:PT X a tA) (hb:PW X (.BoolOp .Or (b::rest) pos) tB'):PW X (.BoolOp .Or (a::b::rest) pos) (tOr tA tB'):=by
 intro wh pins s σ H Q I h
 refine isTrue_or (thn (ha pins s σ H _ I h) fun c s1 ⟨H1,I1,q1⟩=>?_)
 cases c with
 | true=>exact⟨H1,I1,q1⟩
 | false=>exact hb wh pins s1 σ H1 Q I1 q1
theorem E2 (ha:PT X a tA):PT X (.UnaryOp .Not a pos) (EG tA):=by
 intro pins s σ H Q I h
 exact isTrue_not (ha pins s σ H (fun c H1=>Q (!c) H1) I h)
def DX (ta tb:TE):TE:=fun σ H Q=>ta σ H fun x H1=>∃ c,x=.bl c∧if c=true then tb σ H1 Q else Q (.bl false) H1
def GH (ta tb:TE):TE:=fun σ H Q=>ta σ H fun x H1=>∃ c,x=.bl c∧if c=true then Q (.bl true) H1 else tb σ H1 Q
def Jr (ta:TE):TE:=fun σ H Q=>ta σ H fun x H1=>∃ c,x=.bl c∧Q (.bl (!c)) H1
theorem Fg {op} {t:TE} (h:PE X a t):PE X (.BoolOp op [a] pos) t:=fun pins s σ H Q I hw=>BoolOp_one (h pins s σ H Q I hw)
theorem Fl (ha:PE X a ta) (hb:PE X (.BoolOp .And (b::rest) pos) tb):PE X (.BoolOp .And (a::b::rest) pos) (DX ta tb):=by
 intro pins s σ H Q I h
 refine BoolOp_and (thn (ha pins s σ H _ I h) fun v s1 ⟨x,H1,I1,r1,q1⟩=>?_)
 obtain⟨c,rfl,q1⟩:=q1
 cases r1
 refine wpAny_truthy_bool ?_
 cases c with
 | true=>exact hb pins s1 σ H1 Q I1 q1
 | false=>exact⟨.bl false,H1,I1,rfl,q1⟩
theorem G8 (ha:PE X a ta) (hb:PE X (.BoolOp .Or (b::rest) pos) tb):PE X (.BoolOp .Or (a::b::rest) pos) (GH ta tb):=by
 intro pins s σ H Q I h
 refine BoolOp_or (thn (ha pins s σ H _ I h) fun v s1 ⟨x,H1,I1,r1,q1⟩=>?_)
 obtain⟨c,rfl,q1⟩:=q1
 cases r1
 refine wpAny_truthy_bool ?_
 cases c with
 | false=>exact hb pins s1 σ H1 Q I1 q1
 | true=>exact⟨.bl true,H1,I1,rfl,q1⟩
def tIf (t:TT) (ta tb:TE):TE:=fun σ H Q=>t σ H fun c H1=>if c=true then ta σ H1 Q else tb σ H1 Q
end
end L2
namespace L2
open PySem PySem.Spec PyProof.Rows
def SqL (K:PySem.W.Frag) (H:Hp) (a:Addr) (xs:List V):Prop:=
 Rd H a (.lst xs)∨
  ∃ (o:Obj) (its:Array Value) (n:Nat),K.lookup a=some o∧o.cls=.type "list"∧o.dict=none∧o.data=.seq its n∧its.size≤sizeLine∧Vals xs its.toList
def SqT (K:PySem.W.Frag) (H:Hp) (a:Addr) (xs:List V):Prop:=
 Rd H a (.tup xs)∨
  ∃ (o:Obj) (its:Array Value) (n:Nat),K.lookup a=some o∧o.cls=.type "tuple"∧o.data=.seq its n∧its.size≤sizeLine∧Vals xs its.toList
def Jk:Value→Option V
 | .none=>some .non
 | .bool b=>some (.bl b)
 | .int i _=>some (.int i)
 | .str x _=>some (.str x)
 | .bytes b _=>some (.byt b)
 | .float b _=>some (.flt b)
 | .ref a=>some (.ref a)
 | .type n=>some (.ty n)
 | _=>none
theorem RelV.abs {x:V} {u:Value} (r:RelV x u):Jk u=some x:=by
 cases x with
 | non=>cases r;rfl
 | bl _=>cases r;rfl
 | int _=>obtain⟨t,rfl⟩:=r;rfl
 | str _=>obtain⟨t,rfl⟩:=r;rfl
 | byt _=>obtain⟨t,rfl⟩:=r;rfl
 | flt _=>obtain⟨t,rfl⟩:=r;rfl
 | ref _=>cases r;rfl
 | ty _=>cases r;rfl
theorem RelV.inj {x y:V} {u:Value} (r:RelV x u) (q:RelV y u):x=y:=Option.some.inj (r.abs.symm.trans q.abs)
theorem Vals.inj:∀ {xs ys:List V} {us:List Value},Vals xs us→Vals ys us→xs=ys
 | _,_,_,.nil,.nil=>rfl
 | _,_,_,.cons r t,.cons r' t'=>by rw[r.inj r',Vals.inj t t']
section
variable {X:Cx} {pins:List (Addr×Obj)} {σ:St} {H:Hp} {s:Shared} {a:Addr} {xs ys:List V}
theorem SqL.of {K:PySem.W.Frag} (h:H a=some (.lst xs)):SqL K H a xs:=.inl (.inl h)
theorem SqT.of {K:PySem.W.Frag} (h:H a=some (.tup xs)):SqT K H a xs:=.inl (.inl h)
theorem Inv.list (I:Inv X pins σ H s) (h:SqL X.K H a xs):∃ its:List Value,Vals xs its∧PlainL s.heap a its.toArray∧xs.length≤sizeLine:=by
 rcases h with h | ⟨o,its,n,hk,hc,hd,hs,hz,r⟩
 ·obtain⟨z,its,n,r,e⟩:=h.ok I.hok
  exact⟨its,r,⟨_,n,e,rfl,rfl,rfl⟩,z⟩
 ·refine⟨its.toList,r,⟨o,n,I.kIn a o hk,hc,hd,by simpa using hs⟩,?_⟩
  have e:=r.length
  simp only[Array.length_toList] at e
  omega
theorem Inv.tuple (I:Inv X pins σ H s) (h:SqT X.K H a xs):∃ its:List Value,Vals xs its∧IsTup s.heap a its.toArray∧xs.length≤sizeLine:=by
 rcases h with h | ⟨o,its,n,hk,hc,hs,hz,r⟩
 ·obtain⟨z,its,r,p⟩:=h.ok I.hok
  exact⟨its,r,p,z⟩
 ·refine⟨its.toList,r,⟨o,I.kIn a o hk,hc,n,by simpa using hs⟩,?_⟩
  have e:=r.length
  simp only[Array.length_toList] at e
  omega
theorem Inv.A2 (I:Inv X pins σ H s) (h:SqL X.K H a xs) (h':SqL X.K H a ys):xs=ys:=by
 obtain⟨its,r,⟨o,n,e,_,_,d⟩,_⟩:=I.list h
 obtain⟨its',r',⟨o',n',e',_,_,d'⟩,_⟩:=I.list h'
 rw[e] at e';cases e'
 rw[d] at d'
 injection d' with d1 _
 have:its=its':=by simpa using congrArg Array.toList d1
 subst this
 exact r.inj r'
theorem Inv.yW (I:Inv X pins σ H s) (h:SqT X.K H a xs) (h':SqT X.K H a ys):xs=ys:=by
 obtain⟨its,r,⟨o,e,_,n,d⟩,_⟩:=I.tuple h
 obtain⟨its',r',⟨o',e',_,n',d'⟩,_⟩:=I.tuple h'
 rw[e] at e';cases e'
 rw[d] at d'
 injection d' with d1 _
 have:its=its':=by simpa using congrArg Array.toList d1
 subst this
 exact r.inj r'
end
abbrev Cx.rK (X:Cx) (E:Value→Shared→Prop):Cx:={ X with xe:=E }
abbrev Cx.nox (X:Cx):Cx:=X.rK fun _ _=>False
theorem Cx.Ok.rK {X:Cx} (ok:X.Ok) (E:Value→Shared→Prop):(X.rK E).Ok:=
 ⟨ok.mod,ok.kind,ok.glob,ok.blt,ok.above,ok.inj,ok.has,ok.cab,ok.hd,ok.frames,ok.stk,ok.exf,ok.bs,ok.bsz,ok.noex,ok.exfs,ok.oz,ok.frf⟩
theorem Cx.Ok.kb {X:Cx} {E:Value→Shared→Prop} (ok:(X.rK E).Ok):X.Ok:=
 ⟨ok.mod,ok.kind,ok.glob,ok.blt,ok.above,ok.inj,ok.has,ok.cab,ok.hd,ok.frames,ok.stk,ok.exf,ok.bs,ok.bsz,ok.noex,ok.exfs,ok.oz,ok.frf⟩
section
variable {X:Cx} {pins:List (Addr×Obj)} {σ:St} {H:Hp} {s:Shared} {E:Value→Shared→Prop}
theorem Inv.rK (I:Inv X pins σ H s) (E:Value→Shared→Prop):Inv (X.rK E) pins σ H s:=⟨I.ok.rK E,I.os,I.bare,I.base,I.loc,I.cell,I.free,I.freeC,I.pin,I.hok,I.len⟩
theorem Inv.kb (I:Inv (X.rK E) pins σ H s):Inv X pins σ H s:=⟨I.ok.kb,I.os,I.bare,I.base,I.loc,I.cell,I.free,I.freeC,I.pin,I.hok,I.len⟩
theorem SP.kb {D:Ends} {f:Flow} {s':Shared} (h:SP (X.rK E) pins D f s'):SP X pins D f s':=by
 cases f with
 | next=>obtain⟨σ',H',I,q⟩:=h;exact⟨σ',H',I.kb,q⟩
 | brk=>obtain⟨σ',H',I,q⟩:=h;exact⟨σ',H',I.kb,q⟩
 | cont=>obtain⟨σ',H',I,q⟩:=h;exact⟨σ',H',I.kb,q⟩
 | ret u=>obtain⟨v,σ',H',I,r,q⟩:=h;exact⟨v,σ',H',I.kb,r,q⟩
theorem PSs.nox {st:List Stmt} {t:TS} (h:PSs X.nox st t):PSs X st t:=fun pins s σ H D I hw=>
 wpAny_mono (h pins s σ H D (I.rK _) hw) (fun _ _ q=>q.kb) fun _ _ z=>False.elim z
end
section
variable {X:Cx} {st:Stmt} {rest:List Stmt} {t u:TS} {e:Expr} {te:TE} {pos:Pos}
def DW:TS:=fun D σ H=>D.nx σ H
def Ci (t u:TS):TS:=fun D σ H=>t { D with nx:=u D } σ H
theorem CI:PSs X [] DW:=fun _ _ σ H _ I h=>wpAny_execs_nil ⟨σ,H,I,h⟩
theorem qu (h1:PS X st t) (h2:PSs X rest u):PSs X (st::rest) (Ci t u):=by
 intro pins s σ H D I h
 refine wpAny_execs_cons (thn (h1 pins s σ H { D with nx:=u D } I h) fun f s1 q=>?_)
 cases f with
 | next=>
  obtain⟨σ',H',I',q⟩:=q
  exact h2 pins s1 σ' H' D I' q
 | ret v=>exact q
 | brk=>exact q
 | cont=>exact q
theorem CH (h1:PS X st t):PSs X [st] t:=by
 intro pins s σ H D I h
 refine wpAny_execs_cons (thn (h1 pins s σ H D I h) fun f s1 q=>?_)
 cases f with
 | next=>exact wpAny_execs_nil q
 | ret v=>exact q
 | brk=>exact q
 | cont=>exact q
def IH:TS:=fun D σ H=>D.bk σ H
def Jv:TS:=fun D σ H=>D.ct σ H
theorem Inv.quiet {pins:List (Addr×Obj)} {σ:St} {H:Hp} {s:Shared} (I:Inv X pins σ H s):interactive X.env=false:=by simp [interactive,I.ok.kind]
def zZ (te:TE):TS:=fun D σ H=>te σ H fun _ H1=>D.nx σ H1
theorem x_ (he:PE X e te) (hs:swapsWith e none pos.line X.env=pure false:=by rfl):PS X (.Expr e pos) (zZ te):=by
 intro pins s σ H D I h
 exact wpAny_Expr_any (thn (he pins s σ H _ I h) fun v s1 ⟨x,H1,I1,r1,q1⟩=>⟨σ,H1,I1,q1⟩) I.quiet hs
def GG (te:TE):TS:=fun D σ H=>te σ H D.rt
theorem E5 (he:PE X e te):PS X (.Return (some e) pos) (GG te):=by
 intro pins s σ H D I h
 exact wpAny_Return_some (thn (he pins s σ H _ I h) fun v s1 ⟨x,H1,I1,r1,q1⟩=>⟨x,σ,H1,I1,r1,q1⟩)
def Jq:TS:=fun D _ H=>D.rt .non H
def GJ (c:TT) (t u:TS):TS:=fun D σ H=>c σ H fun b H1=>if b=true then t D σ H1 else u D σ H1
theorem G4 {c:Expr} {a b:List Stmt} {tc:TT} (hc:PT X c tc) (ha:PSs X a t) (hb:PSs X b u):PS X (.If c a b pos) (GJ tc t u):=by
 intro pins s σ H D I h
 refine wpAny_If (thn (hc pins s σ H _ I h) fun d s1 ⟨H1,I1,q1⟩=>?_)
 cases d with
 | true=>exact ha pins s1 σ H1 D I1 q1
 | false=>exact hb pins s1 σ H1 D I1 q1
def zX:TS:=fun _ _ _=>False
theorem Aw:PS X st zX:=fun _ _ _ _ _ _ h=>h.elim
end
abbrev TG:=V→St→Hp→(St→Hp→Prop)→Prop
abbrev TGs:=List V→St→Hp→(St→Hp→Prop)→Prop
def PG (X:Cx) (target:Expr) (t:TG):Prop:=
 ∀ (pins:List (Addr×Obj)) (s:Shared) (σ:St) (H:Hp) (v:V) (u:Value) (Q:St→Hp→Prop),Inv X pins σ H s→RelV v u→t v σ H Q→
  wpAny (model X.prog X.w) X.A (assign target X.env u) (fun _ s'=>∃ σ' H',Inv X pins σ' H' s'∧Q σ' H') X.xe s
def PGs (X:Cx) (ts:List Expr) (t:TGs):Prop:=
 ∀ (pins:List (Addr×Obj)) (s:Shared) (σ:St) (H:Hp) (vs:List V) (us:List Value) (Q:St→Hp→Prop),Inv X pins σ H s→Vals vs us→t vs σ H Q→
  wpAny (model X.prog X.w) X.A (assignInOrder ((assignEach ts X.env).map (·.2)) us) (fun _ s'=>∃ σ' H',Inv X pins σ' H' s'∧Q σ' H') X.xe s
abbrev DQ:=V→V→V→Hp→(Hp→Prop)→Prop
def Ij (X:Cx) (t:DQ):Prop:=
 ∀ (pins:List (Addr×Obj)) (s:Shared) (σ:St) (H:Hp) (o i v:V) (ov iv u:Value) (Q:Hp→Prop),Inv X pins σ H s→RelV o ov→RelV i iv→RelV v u→t o i v H Q→
  wpAny (model X.prog X.w) X.A (setItem ov iv u) (fun _ s'=>∃ H',Inv X pins σ H' s'∧Q H') X.xe s
abbrev TIp:=V→V→Hp→VK→Prop
def PIp (X:Cx) (op:Operator) (t:TIp):Prop:=
 ∀ (pins:List (Addr×Obj)) (s:Shared) (σ:St) (H:Hp) (x y:V) (v u:Value) (Q:VK),Inv X pins σ H s→RelV x v→RelV y u→t x y H Q→
  wpAny (model X.prog X.w) X.A (inplaceOp op v u) (EP X pins σ Q) X.xe s
section
variable {X:Cx} {pos:Pos}
def nE (i:Nat):TG:=fun v σ H Q=>Q (σ.set i (some v)) H
theorem bc {i:Nat} {x:Str} (hN:X.N.Nodup) (hi:X.N[i]?=some x) (hx:Loc X.env.scope x) (hf:X.fn x=true∨X.env.scope.names.lookup x=some .local:=by first | exact .inl rfl | exact .inr rfl | assumption):PG X (.Name x pos) (nE i):=by
 intro pins s σ H v u Q I r h
 exact wpAny_assign_Name (mO I hN hi hx r (fun s' I'=>⟨_,H,I',h⟩) hf)
def HF:TGs:=fun vs σ H Q=>vs=[]∧Q σ H
def Ep (t:TG) (u:TGs):TGs:=fun vs σ H Q=>∃ v r,vs=v::r∧t v σ H fun σ' H'=>u r σ' H' Q
theorem dq:PGs X [] HF:=by
 intro pins s σ H vs us Q I r h
 obtain⟨e,h⟩:=h
 subst e
 cases r
 exact assignInOrder_nil ⟨σ,H,I,h⟩
theorem aS {e:Expr} {es:List Expr} {t:TG} {u:TGs} (h1:PG X e t) (h2:PGs X es u)
  (hs:(assignEach (e::es) X.env).map (·.2)=assign e X.env::(assignEach es X.env).map (·.2):=by rfl):PGs X (e::es) (Ep t u):=by
 intro pins s σ H vs us Q I r h
 obtain⟨v,vr,e1,h⟩:=h
 subst e1
 cases r with
 | cons r rr=>
  rw[hs]
  refine assignInOrder_cons (thn (h1 pins s σ H _ _ _ I r h) fun _ s1 ⟨σ1,H1,I1,q1⟩=>?_)
  exact h2 pins s1 σ1 H1 _ _ Q I1 rr q1
def Dv (K:PySem.W.Frag) (n:Nat) (t:TGs):TG:=fun v σ H Q=>∃ a xs,v=.ref a∧SqT K H a xs∧xs.length=n∧t xs σ H Q
theorem wW {es:List Expr} {k:Nat} {t:TGs} {n:Nat} (hc:X.calm=true) (h:PGs X es t)
  (hn:(assignEach es X.env).length=n:=by rfl) (hst:(assignEach es X.env).findIdx? (·.1)=none:=by rfl):PG X (.Tuple es k pos) (Dv X.K n t):=by
 intro pins s σ H v u Q I r hw
 obtain⟨a,xs,e1,hq,hl,hw⟩:=hw
 subst e1
 cases r
 obtain⟨its,rv,ht,hz⟩:=I.tuple hq
 refine assign_Tuple_tuple (I.ok.hd hc) ht (by simp [hn,← hl,rv.length]) hst fun h' hx=>?_
 have I1:Inv X pins σ H { s with heap:=h' }:=I.kept (t':=s.toks) fun b o e=>hx b o (Nat.ne_of_lt (Heap.lt_size e)) e
 exact h pins _ σ H xs _ Q I1 (by simpa using rv) hw
def Dw (to ti:TE) (t:DQ):TG:=fun v σ H Q=>to σ H fun o H1=>ti σ H1 fun i H2=>t o i v H2 fun H3=>Q σ H3
theorem Fe {o i:Expr} {to ti:TE} {t:DQ} (ho:PE X o to) (hi:PE X i ti) (hs:Ij X t)
  (ha:∀ v,assign (.Subscript o i pos) X.env v=(do
   let ov ← holding [v] (eval o X.env)
   let iv ← holding [v,ov] (eval i X.env)
   standAt pos
   holding [v,ov,iv] (setItem ov iv v)
   release [v,ov,iv] []):=by intro _;rfl):PG X (.Subscript o i pos) (Dw to ti t):=by
 intro pins s σ H v u Q I r h
 rw[ha]
 refine wpAny_bind (wpAny_holding (thn (ho pins s σ H _ I h) fun ov s1 ⟨x,H1,I1,r1,q1⟩=>?_))
 refine wpAny_bind (wpAny_holding (thn (hi pins s1 σ H1 _ I1 q1) fun iv s2 ⟨y,H2,I2,r2,q2⟩=>?_))
 refine wpAny_bind (wpAny_standAt (wpAny_bind (wpAny_holding (thn (hs pins s2 σ H2 x y v ov iv u _ I2 r1 r2 r q2) fun _ s3 ⟨H3,I3,q3⟩=>?_))))
 exact wpAny_release ⟨σ,H3,I3,q3⟩
def pN (te:TE) (g:TG):TS:=fun D σ H=>te σ H fun x H1=>g x σ H1 D.nx
theorem wU {tg e:Expr} {te:TE} {g:TG} (he:PE X e te) (hg:PG X tg g) (hs:swapsWithSole [tg] e pos.line X.env=pure false:=by rfl) (hw:swappedStores [tg] e X.env=pure none:=by rfl)
  (h1:(assignEach [tg] X.env).map (·.2)=[assign tg X.env]:=by rfl):PS X (.Assign [tg] e pos) (pN te g):=by
 intro pins s σ H D I h
 refine wpAny_Assign_stores (thn (he pins s σ H _ I h) fun v s1 ⟨x,H1,I1,r1,q1⟩=>?_) hs hw
 rw[h1]
 exact thn (hg pins s1 σ H1 x v _ I1 r1 q1) fun _ s2 q=>q
theorem E4 {i:Nat} {x:Str} {e:Expr} {te:TE} {pos':Pos} (hN:X.N.Nodup) (hi:X.N[i]?=some x) (hx:Loc X.env.scope x) (he:PE X e te) (hs:swapsWith e (some (.Name x pos')) pos.line X.env=pure false:=by rfl) (hf:X.fn x=true∨X.env.scope.names.lookup x=some .local:=by first | exact .inl rfl | exact .inr rfl | assumption) :
  PS X (.Assign [.Name x pos'] e pos) (pN te (nE i)):=by
 intro pins s σ H D I h
 refine wpAny_Assign_Name (thn (he pins s σ H _ I h) fun v s1 ⟨y,H1,I1,r1,q1⟩=>?_) hs
 exact mO I1 hN hi hx r1 (fun s2 I2=>⟨_,H1,I2,q1⟩) hf
def EF (i j:Nat) (ta:TA):TS:=fun D σ H=>ta σ H fun vs H1=>∃ v w,vs=[v,w]∧D.nx ((σ.set i (some v)).set j (some w)) H1
theorem Av {i j:Nat} {x y:Str} {a b:Expr} {ta:TA} {px py pt:Pos} {kt k2 pt2} (hc:X.calm=true) (hN:X.N.Nodup) (hi:X.N[i]?=some x) (hj:X.N[j]?=some y) (hij:i≠j)
  (hx:X.env.scope.names.lookup x=some .local) (hy:X.env.scope.names.lookup y=some .local) (ha:PA X [a,b] ta)
  (hw:swappedStores [.Tuple [.Name x px,.Name y py] kt pt] (.Tuple [a,b] k2 pt2) X.env=pure (some [x,y]))
  (hs:swapsWithSole [.Tuple [.Name x px,.Name y py] kt pt] (.Tuple [a,b] k2 pt2) pos.line X.env=pure false:=by rfl) :
  PS X (.Assign [.Tuple [.Name x px,.Name y py] kt pt] (.Tuple [a,b] k2 pt2) pos) (EF i j ta):=by
 intro pins s σ H D I h
 rw[exec_Assign_arm]
 refine wpAny_bind (wpAny_standAt ?_)
 rw[hs]
 refine wpAny_bind (wpAny_pure ?_)
 rw[if_neg (by decide)]
 refine wpAny_bind (Tuple_ (thn (ha _ pins s σ H _ I h) fun us s1 ⟨vs,H1,I1,r1,q1⟩=>?_))
 obtain⟨v,w,e1,q1⟩:=q1
 subst e1
 obtain⟨u1,u2,rfl,rv,rw'⟩:∃ u1 u2,us=[u1,u2]∧RelV v u1∧RelV w u2:=by
  cases r1 with
  | cons p q=>
   cases q with
   | cons p' q'=>
    cases q'
    exact⟨_,_,rfl,p,p'⟩
 refine wpAny_newObj_type ?_ (by show 2≤sizeLine;decide)
 have I2:Inv X pins σ H1 { s1 with heap:=s1.heap.push { cls:=.type "tuple",data:=.seq [u1,u2].toArray } }:=I1.kept (t':=s1.toks) fun b o e=>Heap.get?_push_of_some _ e
 rw[hw]
 refine wpAny_bind (wpAny_pure ?_)
 show wpAny (model X.prog X.w) X.A (do rule "assign.swapped-stores";let items ← unpackItems (.ref s1.heap.objs.size) 2 none;assignInOrder [fun v=>bindName X.env y v,fun v=>bindName X.env x v] items.reverse;pure Flow.next) _ _ _
 refine wpAny_bind (wpAny_rule (wpAny_bind (unpackItems_tuple (items:=#[u1,u2]) (I.ok.hd hc) (IsTup.new s1.heap _) fun h' hx'=>?_)))
 have I3:=I2.kept (h':=h') (t':=s1.toks) fun b o e=>hx' b o (Nat.ne_of_lt (Heap.lt_size e)) e
 show wpAny _ _ (assignInOrder [fun v=>bindName X.env y v,fun v=>bindName X.env x v] [u2,u1] >>= fun _=>pure Flow.next) _ _ _
 refine wpAny_bind (assignInOrder_cons (wpAny_bindName (mO I3 hN hj (.inl hy) rw' (fun s2 I4=>?_) (.inr hy))))
 refine assignInOrder_cons (wpAny_bindName (mO I4 hN hi (.inl hx) rv (fun s3 I5=>assignInOrder_nil (wpAny_pure ?_)) (.inr hx)))
 rw[List.set_comm _ _ (Ne.symm hij)] at I5
 exact⟨_,H1,I5,q1⟩
def JS (i:Nat) (te:TE) (ti:TIp):TS:=fun D σ H=>∃ x,σ[i]?=some (some x)∧te σ H fun y H1=>ti x y H1 fun z H2=>D.nx (σ.set i (some z)) H2
def Jw (to ti te:TE) (tget:V→V→Hp→VK→Prop) (tip:TIp) (tset:DQ):TS:=fun D σ H=>to σ H fun o H1=>ti σ H1 fun i H2=>tget o i H2 fun x H3=>te σ H3 fun y H4=>tip x y H4 fun z H5=>tset o i z H5 fun H6=>D.nx σ H6
def J8 (X:Cx) (t:V→V→Hp→VK→Prop):Prop:=
 ∀ (pins:List (Addr×Obj)) (s:Shared) (σ:St) (H:Hp) (o i:V) (ov iv:Value) (Q:VK),Inv X pins σ H s→RelV o ov→RelV i iv→t o i H Q→
  wpAny (model X.prog X.w) X.A (getItem ov iv) (EP X pins σ Q) X.xe s
def ipI (f:Int→Int→Int):TIp:=fun x y H Q=>∃ i j,x=.int i∧y=.int j∧Q (.int (f i j)) H
end
section
variable {X:Cx} {pos:Pos}
def Iz (c:TT) (tb:TS):TS:=fun D σ H=>∃ W:Nat→St→Hp→Prop,(∃ m,W m σ H)∧∀ m σ H,W m σ H→
 c σ H fun b H1=>if b=true then ∃ N:St→Hp→Prop,(∀ σ' H',N σ' H'→∃ m',m' < m∧W m' σ' H')∧tb { D with nx:=N,ct:=N,bk:=D.nx } σ H1 else D.nx σ H1
end
structure It where
 go:Nat→Hp→Prop
 yld:Nat→Hp→V→Hp→Prop
 stop:Nat→Hp→Prop
def fX (X:Cx) (pins:List (Addr×Obj)) (H:Hp) (b:Addr):Prop:=
 H b=none∧b≠X.env.locals∧b∉X.fs∧(b∈X.ex∨X.s₀.heap.objs.size≤b)∧(∀ x c,X.env.cells.lookup x=some c→c≠b)∧∀ p∈X.pn++pins,p.1≠b
theorem Inv.p4 {X:Cx} {pins:List (Addr×Obj)} {σ:St} {H H':Hp} {s:Shared} {b:Addr} (I:Inv X pins σ H s) (hb:s.heap.objs.size≤b) (hn:H' b=none):fX X pins H' b:=by
 refine⟨hn,Nat.ne_of_gt (Nat.lt_of_lt_of_le I.lt hb),I.IW hb,.inr (Nat.le_trans I.sz hb),fun x c e z=>?_,fun p hp z=>?_⟩
 ·obtain⟨v,q⟩:=I.cell x c e
  exact absurd (Nat.lt_of_lt_of_le q.lt (by rw[z];exact hb)) (Nat.lt_irrefl _)
 ·exact absurd (Nat.lt_of_lt_of_le (Heap.lt_size (I.pin p hp).1) (by rw[z];exact hb)) (Nat.lt_irrefl _)
structure Turn (P:Program) (w:World) (K:PySem.W.Frag) (tg:Expr) (J:It) (fp:List Addr) (it:Addr) (tn:Nat→Heap→Prop):Prop where
 mem:it∈fp
 obj:∀ i h,tn i h→∀ b∈fp,∃ o,h.get? b=some o∧∀ v,o.data≠.cell v
 keep:∀ i h h',tn i h→(∀ b∈fp,∀ o,h.get? b=some o→h'.get? b=some o)→tn i h'
 item:∀ (X:Cx),X.prog=P→X.w=w→X.K=K→X.calm=true→∀ (i:Nat) (pins:List (Addr×Obj)) (s:Shared) (σ:St) (H:Hp) (E:Value→Shared→Prop),Inv X pins σ H s→(∀ b∈fp,fX X pins H b)→tn i s.heap→J.go i H→
  wpAny (model P w) X.A (pyNext (.ref it)) (fun r s1=>∃ u,r=some u∧
   wpAny (model P w) X.A (letOwnedTupleGo tg (.ref it) u) (fun _ s2=>∃ x H',Inv X pins σ H' s2∧RelV x u∧J.yld i H x H'∧tn (i + 1) s2.heap∧∀ b∈fp,H' b=none) E s1) E s
 done:∀ (X:Cx),X.prog=P→X.w=w→X.K=K→X.calm=true→∀ (i:Nat) (pins:List (Addr×Obj)) (s:Shared) (σ:St) (H:Hp) (E:Value→Shared→Prop),Inv X pins σ H s→(∀ b∈fp,fX X pins H b)→tn i s.heap→J.stop i H→
  wpAny (model P w) X.A (pyNext (.ref it)) (fun r s1=>r=none∧Inv X pins σ H s1) E s
 self:∀ (A:Around) (i:Nat) (s:Shared) (Q:Value→Shared→Prop) (E:Value→Shared→Prop),tn i s.heap→Q (.ref it) s→wpAny (model P w) A (pyIter (.ref it)) Q E s
abbrev TI:=St→Hp→(It→Hp→Prop)→Prop
def PIE (X:Cx) (pins:List (Addr×Obj)) (σ:St) (tg:Expr) (R:It→Hp→Prop) (itv:Value) (s2:Shared):Prop:=
 ∃ (it:Addr) (fp:List Addr) (tn:Nat→Heap→Prop) (J:It) (H':Hp),itv=.ref it∧Inv X pins σ H' s2∧Turn X.prog X.w X.K tg J fp it tn∧tn 0 s2.heap∧(∀ b∈fp,fX X pins H' b)∧R J H'
def PI (X:Cx) (tg iter:Expr) (wi:TI):Prop:=
 ∀ (pins:List (Addr×Obj)) (s:Shared) (σ:St) (H:Hp) (R:It→Hp→Prop),Inv X pins σ H s→wi σ H R→
  wpAny (model X.prog X.w) X.A (eval iter X.env) (fun v s1=>wpAny (model X.prog X.w) X.A (pyIter v) (PIE X pins σ tg R) X.xe s1) X.xe s
theorem yu {M:Model} {A:Around} {E:Value→Shared→Prop} {s:Shared} {tg:Expr} {it:Addr} {u:Value} {o:Obj} {n:String} {vs:Array Value} {Q:Unit→Shared→Prop} (ho:s.heap.get? it=some o) (hc:o.cls=.type n) (hd:o.data=.fields vs)
  (hn:["enumerate","zip","dict_itemiterator","dict_reverseitemiterator","odict_iterator","itertools.zip_longest","itertools.pairwise"].contains n=false) (hQ:Q () s):wpAny M A (letOwnedTupleGo tg (.ref it) u) Q E s:=by
 unfold letOwnedTupleGo
 cases tg <;> first
  | exact wpAny_pure hQ
  | (cases u <;> first
    | exact wpAny_pure hQ
    | (refine wpAny_bind (wpAny_load ho ?_);rw[hc,hd];show wpAny M A (if (["enumerate","zip","dict_itemiterator","dict_reverseitemiterator","odict_iterator","itertools.zip_longest","itertools.pairwise"].contains n && vs[0]? == some (rawInt _))=true then _ else _) Q E s;rw[if_neg (by intro h;rw[hn,Bool.false_and] at h;cases h)];exact wpAny_pure hQ))
def Itl (K:PySem.W.Frag) (a:Addr):It:=
 ⟨fun i H=>∃ xs x,SqL K H a xs∧xs[i]?=some x,fun i H x H'=>H'=H∧∀ xs,SqL K H a xs→xs[i]?=some x,fun i H=>∃ xs,SqL K H a xs∧xs.length≤i⟩
def Itt (K:PySem.W.Frag) (a:Addr):It:=
 ⟨fun i H=>∃ xs x,SqT K H a xs∧xs[i]?=some x,fun i H x H'=>H'=H∧∀ xs,SqT K H a xs→xs[i]?=some x,fun i H=>∃ xs,SqT K H a xs∧xs.length≤i⟩
def Itr (lo:Int) (n:Nat):It:=⟨fun i _=>i < n,fun i H x H'=>H'=H∧x=.int (lo + i),fun i _=>n≤i⟩
theorem yU {P:Program} {w:World} {K:PySem.W.Frag} {tg:Expr} (a it:Addr):Turn P w K tg (Itl K a) [it] it (fun i h=>h.IsListIter it a i) where
 mem:=by simp
 obj:=fun i h st b hb=>by
  have e:b=it:=by simpa using hb
  subst e
  obtain⟨o,e,c,d⟩:=st
  exact⟨o,e,fun v z=>by rw[d] at z;cases z⟩
 keep:=fun i h h' st k=>st.at fun o e=>k it (by simp) o e
 item:=by
  intro X hP hw hK hc i pins s σ H E I hf st hg
  subst hP hw hK
  obtain⟨xs,x,hq,hx⟩:=hg
  obtain⟨its,rv,p,hz⟩:=I.list hq
  obtain⟨u,hu,ru⟩:=rv.get hx
  obtain⟨f0,f1,f2,f3,f4,f5⟩:=hf it (by simp)
  refine wpAny_pyNext_list_item st p.isList (x:=u) (by simpa using hu) fun h' st' sb=>?_
  have I1:Inv X pins σ H { s with heap:=h' }:=I.turned (t':=s.toks) (fun b o hb e=>(sb.2 b hb).trans e) f0 f1 f3 f4 f5
  obtain⟨o,e,c,d⟩:=id st'
  exact⟨u,rfl,yu (s:={ s with heap:=h' }) e c d (by decide) ⟨x,H,I1,ru,⟨rfl,fun ys hy=>by rw[I.A2 hy hq];exact hx⟩,st',fun b hb=>(hf b hb).1⟩⟩
 done:=by
  intro X hP hw hK hc i pins s σ H E I hf st hg
  subst hP hw hK
  obtain⟨xs,hq,hx⟩:=hg
  obtain⟨its,rv,p,hz⟩:=I.list hq
  obtain⟨f0,f1,f2,f3,f4,f5⟩:=hf it (by simp)
  have hl:=rv.length
  exact wpAny_pyNext_list_end (I.ok.hd hc) st p.isList (by simp;omega) fun h' eb=>⟨rfl,I.turned (t':=s.toks) (fun b o hb e=>eb b o hb e) f0 f1 f3 f4 f5⟩
 self:=fun _ _ _ _ _ st h=>wpAny_pyIter_listiter st h
theorem wG {P:Program} {w:World} {K:PySem.W.Frag} {tg:Expr} (a it:Addr):Turn P w K tg (Itt K a) [it] it (fun i h=>h.IsTupleIter it a i) where
 mem:=by simp
 obj:=fun i h st b hb=>by
  have e:b=it:=by simpa using hb
  subst e
  obtain⟨o,e,c,d⟩:=st
  exact⟨o,e,fun v z=>by rw[d] at z;cases z⟩
 keep:=fun i h h' st k=>st.at fun o e=>k it (by simp) o e
 item:=by
  intro X hP hw hK hc i pins s σ H E I hf st hg
  subst hP hw hK
  obtain⟨xs,x,hq,hx⟩:=hg
  obtain⟨its,rv,p,hz⟩:=I.tuple hq
  obtain⟨u,hu,ru⟩:=rv.get hx
  obtain⟨f0,f1,f2,f3,f4,f5⟩:=hf it (by simp)
  refine wpAny_pyNext_tuple_item st (show s.heap.IsTuple a its.toArray from p) (x:=u) (by simpa using hu) fun h' st' sb=>?_
  have I1:Inv X pins σ H { s with heap:=h' }:=I.turned (t':=s.toks) (fun b o hb e=>(sb.2 b hb).trans e) f0 f1 f3 f4 f5
  obtain⟨o,e,c,d⟩:=id st'
  exact⟨u,rfl,yu (s:={ s with heap:=h' }) e c d (by decide) ⟨x,H,I1,ru,⟨rfl,fun ys hy=>by rw[I.yW hy hq];exact hx⟩,st',fun b hb=>(hf b hb).1⟩⟩
 done:=by
  intro X hP hw hK hc i pins s σ H E I hf st hg
  subst hP hw hK
  obtain⟨xs,hq,hx⟩:=hg
  obtain⟨its,rv,p,hz⟩:=I.tuple hq
  obtain⟨f0,f1,f2,f3,f4,f5⟩:=hf it (by simp)
  have hl:=rv.length
  exact wpAny_pyNext_tuple_end (I.ok.hd hc) st (show s.heap.IsTuple a its.toArray from p) (by simp;omega) fun h' eb=>⟨rfl,I.turned (t':=s.toks) (fun b o hb e=>eb b o hb e) f0 f1 f3 f4 f5⟩
 self:=fun _ _ _ _ _ st h=>wpAny_pyIter_tupleiter st h
theorem wH {P:Program} {w:World} {K:PySem.W.Frag} {tg:Expr} (it:Addr) (lo:Int) (n:Nat):Turn P w K tg (Itr lo n) [it] it (fun i h=>IsRangeIter h it (lo + (i:Nat) * 1) ((n:Int) - (i:Nat)) 1) where
 mem:=by simp
 obj:=fun i h st b hb=>by
  have e:b=it:=by simpa using hb
  subst e
  exact⟨_,st,fun v z=>by
   have z':Data.fields _=Data.cell v:=z
   cases z'⟩
 keep:=fun i h h' st k=>k it (by simp) _ st
 item:=by
  intro X hP hw hK hc i pins s σ H E I hf st hg
  subst hP hw hK
  obtain⟨f0,f1,f2,f3,f4,f5⟩:=hf it (by simp)
  have W:=Walks.range (prog:=X.prog) (w:=X.w) (I.ok.hd hc) it lo 1 n
  refine W.item i s _ _ hg st fun v h' tk hv st' kk=>?_
  obtain⟨t,rfl⟩:=hv
  have I1:Inv X pins σ H { s with heap:=h',toks:=tk }:=I.turned (fun b o hb e=>kk b o (by simpa using hb) e) f0 f1 f3 f4 f5
  refine⟨_,rfl,yu (s:={ s with heap:=h',toks:=tk }) (n:="range_iterator") st' rfl rfl (by decide) ⟨.int (lo + i),H,I1,⟨t,?_⟩,⟨rfl,rfl⟩,st',fun b hb=>(hf b hb).1⟩⟩
  rw[Int.mul_one]
 done:=by
  intro X hP hw hK hc i pins s σ H E I hf st hg
  subst hP hw hK
  obtain⟨f0,f1,f2,f3,f4,f5⟩:=hf it (by simp)
  exact wpAny_pyNext_range_end (I.ok.hd hc) st (by have:n≤i:=hg;omega) fun h' eb=>⟨rfl,I.turned (t':=s.toks) (fun b o hb e=>eb b o hb e) f0 f1 f3 f4 f5⟩
 self:=fun _ _ _ _ _ st h=>wpAny_pyIter_rangeiter st h
end L2
namespace L2
open PySem PySem.Spec PyProof.Rows
section
variable {X:Cx} {tg:Expr}
def D9 (K:PySem.W.Frag) (tl:TE):TI:=fun σ H R=>tl σ H fun x H1=>∃ a,x=.ref a∧(∃ xs,SqL K H1 a xs)∧R (Itl K a) H1
def Hv (K:PySem.W.Frag) (tl:TE):TI:=fun σ H R=>tl σ H fun x H1=>∃ a,x=.ref a∧(∃ xs,SqT K H1 a xs)∧R (Itt K a) H1
theorem CL {l:Expr} {tl:TE} (hl:PE X l tl):PI X tg l (D9 X.K tl):=by
 intro pins s σ H R I h
 refine thn (hl pins s σ H _ I h) fun v s1 ⟨x,H1,I1,r1,q1⟩=>?_
 obtain⟨a,e,⟨xs,hq⟩,q⟩:=q1
 subst e
 cases r1
 obtain⟨its,rv,p,hz⟩:=I1.list hq
 refine wpAny_pyIter_list p.isList ?_
 refine⟨s1.heap.objs.size,[s1.heap.objs.size],_,_,H1,rfl,I1.kept (t':=s1.toks) fun b o e=>Heap.get?_push_of_some _ e,yU a _,⟨_,Heap.get?_push_size _ rfl,rfl,rfl⟩,fun b hb=>?_,q⟩
 have e:b=s1.heap.objs.size:=by simpa using hb
 subst e
 exact I1.p4 (Nat.le_refl _) (I1.hok.fresh (Nat.le_refl _))
theorem Fc {l:Expr} {tl:TE} (hl:PE X l tl):PI X tg l (Hv X.K tl):=by
 intro pins s σ H R I h
 refine thn (hl pins s σ H _ I h) fun v s1 ⟨x,H1,I1,r1,q1⟩=>?_
 obtain⟨a,e,⟨xs,hq⟩,q⟩:=q1
 subst e
 cases r1
 obtain⟨its,rv,p,hz⟩:=I1.tuple hq
 refine wpAny_pyIter_tuple (show s1.heap.IsTuple a its.toArray from p) ?_
 refine⟨s1.heap.objs.size,[s1.heap.objs.size],_,_,H1,rfl,I1.kept (t':=s1.toks) fun b o e=>Heap.get?_push_of_some _ e,wG a _,⟨_,Heap.get?_push_size _ rfl,rfl,rfl⟩,fun b hb=>?_,q⟩
 have e:b=s1.heap.objs.size:=by simpa using hb
 subst e
 exact I1.p4 (Nat.le_refl _) (I1.hok.fresh (Nat.le_refl _))
theorem Aq {pins:List (Addr×Obj)} {σ:St} {H:Hp} {s:Shared} {R:It→Hp→Prop} {E:Value→Shared→Prop} {lo hi:Int} {t u v:Tok} {tk:Nat} (I:Inv X pins σ H s) (h1:-(2 ^ 62)≤lo) (h2:lo < 2 ^ 62) (h3:-(2 ^ 62)≤hi) (h4:hi < 2 ^ 62)
  (q:R (Itr lo (hi - lo).toNat) H):wpAny (model X.prog X.w) X.A (pyIter (.ref s.heap.objs.size)) (PIE X pins σ tg R) E { s with heap:=s.heap.push { cls:=.type "range",data:=.fields #[.int lo t,.int hi u,.int 1 v] },toks:=tk }:=by
 refine wpAny_pyIter_range (IsRange.new ..) (small_one h1 h2 h3 h4) ?_
 have I1:Inv X pins σ H { s with heap:=s.heap.push { cls:=.type "range",data:=.fields #[.int lo t,.int hi u,.int 1 v] },toks:=tk }:=I.kept fun b o e=>Heap.get?_push_of_some _ e
 refine⟨(s.heap.push { cls:=.type "range",data:=.fields #[.int lo t,.int hi u,.int 1 v] }).objs.size,[(s.heap.push { cls:=.type "range",data:=.fields #[.int lo t,.int hi u,.int 1 v] }).objs.size],_,_,H,rfl,
  I1.kept (t':=tk) fun b o e=>Heap.get?_push_of_some _ e,wH _ lo (hi - lo).toNat,?_,fun b hb=>?_,q⟩
 ·have e1:lo + ((0:Nat):Int) * 1=lo:=by simp
  have e2:(((hi - lo).toNat:Nat):Int) - ((0:Nat):Int)=Builtin.Range.rangeSize lo hi 1:=by rw[rangeSize_one];split <;> omega
  show IsRangeIter _ _ (lo + ((0:Nat):Int) * 1) ((((hi - lo).toNat:Nat):Int) - ((0:Nat):Int)) 1
  rw[e1,e2]
  exact Heap.get?_push_size _ rfl
 ·have e:b=(s.heap.push { cls:=.type "range",data:=.fields #[.int lo t,.int hi u,.int 1 v] }).objs.size:=by simpa using hb
  subst e
  exact I1.p4 (Nat.le_refl _) (I1.hok.fresh (Nat.le_refl _))
def D8 (ta:TA):TI:=fun σ H R=>ta σ H fun vs H1=>∃ j:Int,vs=[.int j]∧-(2 ^ 62)≤j∧j < 2 ^ 62∧R (Itr 0 j.toNat) H1
def JH (ta:TA):TI:=fun σ H R=>ta σ H fun vs H1=>∃ i j:Int,vs=[.int i,.int j]∧(-(2 ^ 62)≤i∧i < 2 ^ 62∧-(2 ^ 62)≤j∧j < 2 ^ 62)∧R (Itr i (j - i).toNat) H1
theorem y9 {a:Expr} {ta:TA} {p pos:Pos} (hg:Gl X "range") (hm:X.mg "range"=none) (ha:PA X [a] ta) (hs:starEach [a] X.env=[(false,eval a X.env)]:=by rfl):PI X tg (.Call (.Name "range" p) [a] [] pos) (D8 ta):=by
 intro pins s σ H R I h
 refine Call_ (kq I hg hm boot_range (PyProof.Rows.callWith_type1 (thn (ha pos pins s σ H _ I h) fun us s1 ⟨vs,H1,I1,r1,q1⟩=>?_) hs rfl))
 obtain⟨j,e,q1,q2,q⟩:=q1
 subst e
 cases r1 with
 | cons r rr=>
  cases rr
  obtain⟨t,rfl⟩:=r
  exact call_range_1 (Aq I1 (by omega) (by omega) q1 q2 (by simpa using q))
def GK (wi:TI) (g:TG) (tb:TS):TS:=fun D σ H=>wi σ H fun J H1=>∃ W:Nat→Nat→St→Hp→Prop,(∃ m,W 0 m σ H1)∧∀ i m σ H,W i m σ H→
 (J.stop i H∧D.nx σ H)∨(J.go i H∧∃ N:St→Hp→Prop,(∀ σ' H',N σ' H'→∃ m',m' < m∧W (i + 1) m' σ' H')∧∀ x H',J.yld i H x H'→g x σ H' fun σ2 H2=>tb { D with nx:=N,ct:=N,bk:=D.nx } σ2 H2)
def qx (fp:List Addr) (h:Heap):List (Addr×Obj):=fp.filterMap fun b=>(h.get? b).map fun o=>(b,o)
theorem fK {fp:List Addr} {h:Heap} {b:Addr} {o:Obj} (hb:b∈fp) (e:h.get? b=some o):(b,o)∈qx fp h:=List.mem_filterMap.mpr ⟨b,hb,by rw[e];rfl⟩
theorem sC {fp:List Addr} {h:Heap} {p:Addr×Obj} (hp:p∈qx fp h):p.1∈fp∧h.get? p.1=some p.2:=by
 obtain⟨b,hb,e⟩:=List.mem_filterMap.mp hp
 cases q:h.get? b with
 | none=>rw[q] at e;cases e
 | some o=>
  rw[q] at e
  have e':(b,o)=p:=Option.some.inj e
  subst e'
  exact⟨hb,q⟩
theorem Inv.pinned {pins:List (Addr×Obj)} {σ:St} {H:Hp} {s:Shared} {fp:List Addr} (I:Inv X pins σ H s) (hf:∀ b∈fp,fX X pins H b) (ho:∀ b∈fp,∃ o,s.heap.get? b=some o∧∀ v,o.data≠.cell v):Inv X (pins++qx fp s.heap) σ H s:=
 I.jx fun p hp=>(List.mem_append.mp hp).elim (fun z=>I.pin p (List.mem_append_right _ z)) fun z=>by
  obtain⟨hb,e⟩:=sC z
  obtain⟨f0,f1,f2,_⟩:=hf p.1 hb
  obtain⟨o,e',d⟩:=ho p.1 hb
  rw[e] at e';cases e'
  exact⟨e,f0,f1,f2,d⟩
theorem Inv.qj {pins pl:List (Addr×Obj)} {σ:St} {H:Hp} {s:Shared} (I:Inv X (pins++pl) σ H s):Inv X pins σ H s:=I.jx fun p hp=>I.pin p (List.mem_append_right _ (List.mem_append_left _ hp))
theorem E6 {iter:Expr} {body:List Stmt} {wi:TI} {g:TG} {tb:TS} {pos:Pos} (hp:PassesOwn (model X.prog X.w) X.A X.env X.xe) (hc:X.calm=true) (hi:PI X tg iter wi) (hg:PG X tg g) (hb:PSs X body tb)
  (hs:∀ x,foldedSetIterable iter X.env x=pure x:=by intro _;rfl):PS X (.For tg iter body [] pos) (GK wi g tb):=by
 intro pins s σ H D I h
 refine wpAny_For (thn (hi pins s σ H _ I h) fun v s1 h1=>thn h1 fun itv s2 h2=>?_) hs
 obtain⟨it,fp,tn,J,H2,e,I2,T,st2,f2,W,⟨m0,w0⟩,turn⟩:=h2
 subst e
 have stat:∀ {H':Hp},(∀ b∈fp,H' b=none)→∀ b∈fp,fX X pins H' b:=fun hn b hb=>⟨hn b hb,(f2 b hb).2⟩
 refine codeAny_forLoop_any (fun n s'=>∃ i σ' H',Inv X pins σ' H' s'∧tn i s'.heap∧(∀ b∈fp,H' b=none)∧W i n σ' H') ?_ m0 ⟨0,σ,H2,I2,st2,fun b hb=>(f2 b hb).1,w0⟩
 rintro n s3 ⟨i,σ3,H3,I3,st3,fr3,w3⟩
 rcases turn i n σ3 H3 w3 with ⟨stop,qn⟩ | ⟨go,N,hN,step⟩
 ·refine wpAny_passesOwn hp (thn (T.done X rfl rfl rfl hc i pins s3 σ3 H3 X.xe I3 (stat fr3) st3 stop) fun r s4 ⟨hr,I4⟩=>?_)
  subst hr
  exact wpAny_execs_nil ⟨σ3,H3,I4,qn⟩
 ·refine wpAny_passesOwn hp (thn (T.item X rfl rfl rfl hc i pins s3 σ3 H3 X.xe I3 (stat fr3) st3 go) fun r s4 ⟨u,hr,h4⟩=>?_)
  subst hr
  refine wpAny_passesOwn hp (thn h4 fun _ s5 ⟨x,H5,I5,r5,y5,st5,fr5⟩=>?_)
  have I5':=I5.pinned (stat fr5) (T.obj _ _ st5)
  refine wpAny_passesOwn hp (thn (hg _ s5 σ3 H5 x u _ I5' r5 (step x H5 y5)) fun _ s6 ⟨σ6,H6,I6,q6⟩=>?_)
  refine wpAny_passesOwn hp (thn (hb _ s6 σ6 H6 _ I6 q6) fun f s7 q7=>?_)
  have again:∀ {σ7:St} {H7:Hp},Inv X (pins++qx fp s5.heap) σ7 H7 s7→N σ7 H7→∃ m,m < n∧∃ i σ' H',Inv X pins σ' H' s7∧tn i s7.heap∧(∀ b∈fp,H' b=none)∧W i m σ' H':=fun {σ7 H7} I7 n7=>by
   obtain⟨m',hm,w7⟩:=hN σ7 H7 n7
   refine⟨m',hm,i + 1,σ7,H7,I7.qj,T.keep _ _ _ st5 fun b hb o e=>(I7.pin (b,o) (List.mem_append_right _ (List.mem_append_right _ (fK hb e)))).1,fun b hb=>?_,w7⟩
   obtain⟨o,e,d⟩:=T.obj _ _ st5 b hb
   exact(I7.pin (b,o) (List.mem_append_right _ (List.mem_append_right _ (fK hb e)))).2.1
  cases f with
  | next=>obtain⟨σ7,H7,I7,n7⟩:=q7;exact again I7 n7
  | cont=>obtain⟨σ7,H7,I7,n7⟩:=q7;exact again I7 n7
  | brk=>obtain⟨σ7,H7,I7,q7⟩:=q7;exact⟨σ7,H7,I7.qj,q7⟩
  | ret v=>obtain⟨x7,σ7,H7,I7,r7,q7⟩:=q7;exact⟨x7,σ7,H7,I7.qj,r7,q7⟩
end
end L2
namespace L2
open PySem PySem.Spec PyProof.Rows
abbrev R2:=V→V→Hp→VK→Prop
def OpR (X:Cx) (f:Value→Value→Sem Value) (r:R2):Prop:=
 ∀ (pins:List (Addr×Obj)) (s:Shared) (σ:St) (H:Hp) (x y:V) (v u:Value) (Q:VK),Inv X pins σ H s→RelV x v→RelV y u→r x y H Q→
  wpAny (model X.prog X.w) X.A (f v u) (EP X pins σ Q) X.xe s
def UnR (X:Cx) (f:Value→Sem Value) (r:V→Hp→VK→Prop):Prop:=
 ∀ (pins:List (Addr×Obj)) (s:Shared) (σ:St) (H:Hp) (x:V) (v:Value) (Q:VK),Inv X pins σ H s→RelV x v→r x H Q→
  wpAny (model X.prog X.w) X.A (f v) (EP X pins σ Q) X.xe s
def ek (X:Cx) (f:Value) (r:List V→Hp→VK→Prop):Prop:=
 ∀ (pins:List (Addr×Obj)) (s:Shared) (σ:St) (H:Hp) (xs:List V) (us:List Value) (Q:VK),Inv X pins σ H s→Vals xs us→r xs H Q→
  wpAny (model X.prog X.w) X.A (call f us) (EP X pins σ Q) X.xe s
def J7 (X:Cx) (r:V→Hp→(Bool→Hp→Prop)→Prop):Prop:=
 ∀ (pins:List (Addr×Obj)) (s:Shared) (σ:St) (H:Hp) (x:V) (v:Value) (Q:Bool→Hp→Prop),Inv X pins σ H s→RelV x v→r x H Q→
  wpAny (model X.prog X.w) X.A (truthy v) (TP X pins σ Q) X.xe s
def tOp (r:R2) (ta tb:TE):TE:=fun σ H Q=>ta σ H fun x H1=>tb σ H1 fun y H2=>r x y H2 Q
def tUn (r:V→Hp→VK→Prop) (ta:TE):TE:=fun σ H Q=>ta σ H fun x H1=>r x H1 Q
def rI (C:Int→Int→Prop) (g:Int→Int→V):R2:=fun x y H Q=>∃ i j,x=.int i∧y=.int j∧C i j∧Q (g i j) H
def rI0 (g:Int→Int→V):R2:=fun x y H Q=>∃ i j,x=.int i∧y=.int j∧Q (g i j) H
def rU (g:Int→V):V→Hp→VK→Prop:=fun x H Q=>∃ i,x=.int i∧Q (g i) H
section
variable {X:Cx} {a b c:Expr} {ta tb tc:TE} {pos:Pos}
theorem Gj (ha:PE X a ta) (hb:PE X b tb) {pins:List (Addr×Obj)} {s:Shared} {σ:St} {H:Hp} {R:V→V→Hp→Prop} (I:Inv X pins σ H s)
  (h:ta σ H fun x H1=>tb σ H1 fun y H2=>R x y H2) {Q:Value→Shared→Prop} {f:Value→Value→Sem Value}
  (hf:∀ v u s2 x y H2,Inv X pins σ H2 s2→RelV x v→RelV y u→R x y H2→wpAny (model X.prog X.w) X.A (f v u) Q X.xe s2) :
  wpAny (model X.prog X.w) X.A (eval a X.env) (fun v s₁=>wpAny (model X.prog X.w) X.A (eval b X.env) (fun u s₂=>wpAny (model X.prog X.w) X.A (f v u) Q X.xe s₂) X.xe s₁) X.xe s:=by
 refine thn (ha pins s σ H _ I h) fun v s1 ⟨x,H1,I1,r1,q1⟩=>?_
 refine thn (hb pins s1 σ H1 _ I1 q1) fun u s2 ⟨y,H2,I2,r2,q2⟩=>?_
 exact hf v u s2 x y H2 I2 r1 r2 q2
theorem qz {op:Operator} {r:R2} (ho:OpR X (binaryOp op) r) (ha:PE X a ta) (hb:PE X b tb):PE X (.BinOp a op b pos) (tOp r ta tb):=by
 intro pins s σ H Q I h
 exact wpAny_BinOp (Gj ha hb I h fun v u s2 x y H2 I2 rx ry q=>ho pins s2 σ H2 x y v u Q I2 rx ry q)
theorem G7 {op:UnaryOp} {r:V→Hp→VK→Prop} (ho:UnR X (unaryOp op) r) (ha:PE X a ta):PE X (.UnaryOp op a pos) (tUn r ta):=by
 intro pins s σ H Q I h
 exact UnaryOp_ (thn (ha pins s σ H _ I h) fun v s1 ⟨x,H1,I1,r1,q1⟩=>ho pins s1 σ H1 x v Q I1 r1 q1)
theorem opI {f:Value→Value→Sem Value} {C:Int→Int→Prop} {g:Int→Int→Int}
  (rule:∀ (i j:Int) (t u:Tok) (s:Shared) (Q:Value→Shared→Prop) (E:Value→Shared→Prop),C i j→Q (.int (g i j) s.toks) { s with toks:=s.toks + 1 }→wpAny (model X.prog X.w) X.A (f (.int i t) (.int j u)) Q E s) :
  OpR X f (rI C fun i j=>.int (g i j)):=by
 intro pins s σ H x y v u Q I rx ry h
 obtain⟨i,j,rfl,rfl,hc,q⟩:=h
 obtain⟨t,rfl⟩:=rx
 obtain⟨t',rfl⟩:=ry
 exact rule i j t t' s _ _ hc ⟨.int (g i j),H,I.tok _,⟨_,rfl⟩,q⟩
theorem xa {f:Value→Value→Sem Value} {g:Int→Int→Int}
  (rule:∀ (i j:Int) (t u:Tok) (s:Shared) (Q:Value→Shared→Prop) (E:Value→Shared→Prop),Q (.int (g i j) s.toks) { s with toks:=s.toks + 1 }→wpAny (model X.prog X.w) X.A (f (.int i t) (.int j u)) Q E s) :
  OpR X f (rI0 fun i j=>.int (g i j)):=by
 intro pins s σ H x y v u Q I rx ry h
 obtain⟨i,j,rfl,rfl,q⟩:=h
 obtain⟨t,rfl⟩:=rx
 obtain⟨t',rfl⟩:=ry
 exact rule i j t t' s _ _ ⟨.int (g i j),H,I.tok _,⟨_,rfl⟩,q⟩
theorem Fv {f:Value→Value→Sem Value} {g:Int→Int→Bool}
  (rule:∀ (i j:Int) (t u:Tok) (s:Shared) (Q:Value→Shared→Prop) (E:Value→Shared→Prop),Q (.bool (g i j)) s→wpAny (model X.prog X.w) X.A (f (.int i t) (.int j u)) Q E s) :
  OpR X f (rI0 fun i j=>.bl (g i j)):=by
 intro pins s σ H x y v u Q I rx ry h
 obtain⟨i,j,rfl,rfl,q⟩:=h
 obtain⟨t,rfl⟩:=rx
 obtain⟨t',rfl⟩:=ry
 exact rule i j t t' s _ _ ⟨.bl (g i j),H,I,rfl,q⟩
def GA (i j:Int):Prop:=0 < j∧j < 1073741824
def JK (i j:Int):Prop:=j≠0∧j.natAbs < 1073741824
def B_ (i j:Int):Prop:=0≤j∧j≤1000000∧i.natAbs < 2 ^ 64
def Ca (i j:Int):Prop:=(-(2 ^ 64) < i∧i < 2 ^ 64)∨(-(2 ^ 64) < j∧j < 2 ^ 64)
theorem Ca.ok {i j:Int} (h:Ca i j):IntMulOk i j:=by
 rcases h with ⟨h1,h2⟩ | ⟨h1,h2⟩
 ·exact .of_left (intBits_le_64 h1 h2)
 ·exact .of_right (intBits_le_64 h1 h2)
theorem Fu:OpR X (binaryOp .Add) (rI0 fun i j=>.int (i + j)):=xa fun _ _ _ _ _ _ _ q=>add_int q
theorem Fn:OpR X (binaryOp .Sub) (rI0 fun i j=>.int (i - j)):=xa fun _ _ _ _ _ _ _ q=>sub_int q
theorem Fp:OpR X (binaryOp .Mult) (rI Ca fun i j=>.int (i * j)):=opI fun _ _ _ _ _ _ _ hc q=>mul_int q hc.ok
theorem C6:OpR X (binaryOp .FloorDiv) (rI GA fun i j=>.int (i / j)):=opI fun i j _ _ _ _ _ hc q=>by
 have h1:(0:Int) < j:=hc.1
 have h2:j < 1073741824:=hc.2
 exact floordiv_int (by omega) (by rw[Int.fdiv_eq_ediv_of_nonneg i (by omega)];exact q) (.inl (PyProof.noPylong_small (by omega)))
theorem Fq:OpR X (binaryOp .Mod) (rI (fun _ j=>0 < j) fun i j=>.int (i % j)):=opI fun i j _ _ _ _ _ hc q=>by
 have h1:(0:Int) < j:=hc
 exact mod_int' (by omega) (by rw[Int.fmod_eq_emod_of_nonneg i (by omega)];exact q)
theorem AK:OpR X (binaryOp .Pow) (rI B_ fun i j=>.int (i ^ j.toNat)):=opI fun _ _ _ _ _ _ _ hc q=>pow_int_small hc.1 hc.2.1 hc.2.2 q
theorem unI {f:Value→Sem Value} {g:Int→Int}
  (rule:∀ (i:Int) (t:Tok) (s:Shared) (Q:Value→Shared→Prop) (E:Value→Shared→Prop),Q (.int (g i) s.toks) { s with toks:=s.toks + 1 }→wpAny (model X.prog X.w) X.A (f (.int i t)) Q E s) :
  UnR X f (rU fun i=>.int (g i)):=by
 intro pins s σ H x v Q I rx h
 obtain⟨i,rfl,q⟩:=h
 obtain⟨t,rfl⟩:=rx
 exact rule i t s _ _ ⟨.int (g i),H,I.tok _,⟨_,rfl⟩,q⟩
theorem EC:UnR X (unaryOp .USub) (rU fun i=>.int (-i)):=unI fun _ _ _ _ _ q=>neg_int q
end
def GP:V→V→Bool
 | .non,.non=>true | .non,.int _=>true | .int _,.non=>true | .non,.bl _=>true | .bl _,.non=>true | .non,.str _=>true | .str _,.non=>true
 | .int _,.int _=>true | .bl _,.bl _=>true | .str _,.str _=>true | .byt _,.byt _=>true
 | .int _,.str _=>true | .str _,.int _=>true | .bl _,.str _=>true | .str _,.bl _=>true
 | _,_=>false
def rEq:R2:=fun x y H Q=>GP x y=true∧Q (.bl (decide (x=y))) H
def rNe:R2:=fun x y H Q=>GP x y=true∧Q (.bl (!decide (x=y))) H
section
variable {X:Cx} {a b c:Expr} {ta tb tc:TE} {pos:Pos}
theorem Bt {pins:List (Addr×Obj)} {σ:St} {H:Hp} {s:Shared} {Q:VK} {k k':Bool} (I:Inv X pins σ H s) (q:Q (.bl k) H) (e:k=k'):EP X pins σ Q (.bool k') s:=by
 subst e
 exact⟨.bl k,H,I,rfl,q⟩
theorem Hd:OpR X (compareOp .Lt) (rI0 fun i j=>.bl (decide (i < j))):=Fv fun _ _ _ _ _ _ _ q=>lt_int q
theorem He:OpR X (compareOp .LtE) (rI0 fun i j=>.bl (decide (i≤j))):=Fv fun _ _ _ _ _ _ _ q=>le_int q
theorem Hf:OpR X (compareOp .Gt) (rI0 fun i j=>.bl (decide (j < i))):=Fv fun _ _ _ _ _ _ _ q=>gt_int q
def isObj:HO→Bool
 | .lst _=>true
 | .ins _ _ _=>true
 | _=>false
theorem OpR.or {f:Value→Value→Sem Value} {r r':R2} (h:OpR X f r) (h':OpR X f r'):OpR X f (fun x y H Q=>r x y H Q∨r' x y H Q):=by
 intro pins s σ H x y v u Q I rx ry q
 rcases q with q | q
 ·exact h pins s σ H x y v u Q I rx ry q
 ·exact h' pins s σ H x y v u Q I rx ry q
theorem bW (b:Expr) {op:CmpOp} (h:op≠.In:=by decide) (h2:op≠.NotIn:=by decide):behindInMarks op b=false:=by
 have e1:(op == CmpOp.In)=false:=by cases op <;> first | rfl | exact absurd rfl h
 have e2:(op == CmpOp.NotIn)=false:=by cases op <;> first | rfl | exact absurd rfl h2
 cases b <;> simp [behindInMarks,e1,e2]
theorem CQ {op:CmpOp} {r:R2} (ho:OpR X (compareOp op) r) (ha:PE X a ta) (hb:PE X b tb) (hm:behindInMarks op b=false):PE X (.Compare a [op] [b] pos) (tOp r ta tb):=by
 intro pins s σ H Q I h
 exact wpAny_Compare1 (Gj ha hb I h fun v u s2 x y H2 I2 rx ry q=>ho pins s2 σ H2 x y v u Q I2 rx ry q) hm
def xV (t:TE):TT:=fun σ H Q=>t σ H fun x H'=>∃ k,x=.bl k∧Q k H'
theorem CG {op:CmpOp} {r:R2} (ho:OpR X (compareOp op) r) (ha:PE X a ta) (hb:PE X b tb) (hm:behindInMarks op b=false):PT X (.Compare a [op] [b] pos) (xV (tOp r ta tb)):=by
 intro pins s σ H Q I h
 refine wpAny_isTrue_Compare1 (thn (ha pins s σ H _ I h) fun v s1 ⟨x,H1,I1,r1,q1⟩=>thn (hb pins s1 σ H1 _ I1 q1) fun u s2 ⟨y,H2,I2,r2,q2⟩=>
  thn (ho pins s2 σ H2 x y v u _ I2 r1 r2 q2) fun c s3 ⟨z,H3,I3,r3,k,e,q3⟩=>?_) hm
 subst e
 cases r3
 exact wpAny_truthy_bool ⟨H3,I3,q3⟩
def ql (r r':R2) (ta tb tc:TE):TE:=fun σ H Q=>ta σ H fun x H1=>tb σ H1 fun y H2=>r x y H2 fun z H3=>∃ k,z=.bl k∧
 (if k=true then tc σ H3 fun w' H4=>r' y w' H4 Q else Q (.bl false) H3)
theorem AB {op op':CmpOp} {r r':R2} (ho:OpR X (compareOp op) r) (ho':OpR X (compareOp op') r') (ha:PE X a ta) (hb:PE X b tb) (hc:PE X c tc)
  (hm:lastMarks [op,op'] [b,c]=false:=by with_unfolding_all rfl):PE X (.Compare a [op,op'] [b,c] pos) (ql r r' ta tb tc):=by
 intro pins s σ H Q I h
 refine Compare_chain (thn (ha pins s σ H _ I h) fun v s1 ⟨x,H1,I1,r1,q1⟩=>chain_link (thn (hb pins s1 σ H1 _ I1 q1) fun u s2 ⟨y,H2,I2,r2,q2⟩=>
  thn (ho pins s2 σ H2 x y v u _ I2 r1 r2 q2) fun d s3 ⟨z,H3,I3,r3,k,e,q3⟩=>?_)) hm
 subst e
 cases r3
 refine wpAny_truthy_bool ?_
 cases k with
 | false=>exact ite_ff ⟨.bl false,H3,I3,rfl,q3⟩
 | true=>exact ite_tt (chain_last (thn (hc pins s3 σ H3 _ I3 q3) fun w' s4 ⟨z',H4,I4,r4,q4⟩=>ho' pins s4 σ H4 y z' u w' Q I4 r2 r4 q4))
theorem Au {op op':CmpOp} {r r':R2} (ho:OpR X (compareOp op) r) (ho':OpR X (compareOp op') r') (ha:PE X a ta) (hb:PE X b tb) (hc:PE X c tc)
  (hm:lastMarks [op,op'] [b,c]=false:=by with_unfolding_all rfl):PT X (.Compare a [op,op'] [b,c] pos) (xV (ql r r' ta tb tc)):=by
 intro pins s σ H Q I h
 refine isTrue_chain (thn (ha pins s σ H _ I h) fun v s1 ⟨x,H1,I1,r1,q1⟩=>test_link (thn (hb pins s1 σ H1 _ I1 q1) fun u s2 ⟨y,H2,I2,r2,q2⟩=>
  thn (ho pins s2 σ H2 x y v u _ I2 r1 r2 q2) fun d s3 ⟨z,H3,I3,r3,k,e,q3⟩=>?_)) hm
 subst e
 cases r3
 refine wpAny_truthy_bool ?_
 cases k with
 | false=>
  obtain⟨k',e',q'⟩:=q3
  cases e'
  exact ite_ff ⟨H3,I3,q'⟩
 | true=>
  refine ite_tt (test_last (thn (hc pins s3 σ H3 _ I3 q3) fun w' s4 ⟨z',H4,I4,r4,q4⟩=>thn (ho' pins s4 σ H4 y z' u w' _ I4 r2 r4 q4) fun d' s5 ⟨z2,H5,I5,r5,k2,e2,q5⟩=>?_))
  subst e2
  cases r5
  exact wpAny_truthy_bool ⟨H5,I5,q5⟩
def J6 (K:PySem.W.Frag) (x:V) (H:Hp) (k:Bool):Prop:=
 match x with
 | .non=>k=false
 | .bl b=>k=b
 | .int i=>k=(i != 0)
 | .str y=>y.length≤sizeLine∧k=((y.length:Int) != 0)
 | .byt y=>y.size≤sizeLine∧k=((y.size:Int) != 0)
 | .ref p=>(∃ xs,SqL K H p xs∧k=!xs.isEmpty)∨(∃ xs,SqT K H p xs∧k=!xs.isEmpty)∨∃ kvs,H p=some (.dK kvs)∧k=!kvs.isEmpty
 | _=>False
theorem ou:(sizeLine:Nat) < 2 ^ 63:=by rw[sizeLine_eq];decide
theorem w_:OpR X (binaryOp .Add) (fun x y H Q=>∃ i j,x=.str i∧y=.str j∧i.length + j.length≤sizeLine∧Q (.str (i++j)) H):=by
 intro pins s σ H x y v u Q I rx ry h
 obtain⟨i,j,rfl,rfl,hz,q⟩:=h
 obtain⟨t,rfl⟩:=rx
 obtain⟨t',rfl⟩:=ry
 exact add_str (fun t' tk=>⟨.str (i++j),H,I.tok _,⟨_,rfl⟩,q⟩) hz
def Ii (b:Expr):Prop:=∀ o i,subscripted b false o i=operate [o,i] (getItem o i)
theorem vals1 {x:V} {us:List Value} (r:Vals [x] us):∃ u,us=[u]∧RelV x u:=by
 cases r with
 | cons r1 r2=>cases r2;exact⟨_,rfl,r1⟩
theorem vals2 {x y:V} {us:List Value} (r:Vals [x,y] us):∃ u w',us=[u,w']∧RelV x u∧RelV y w':=by
 cases r with
 | cons r1 r2=>
  cases r2 with
  | cons r3 r4=>cases r4;exact⟨_,_,rfl,r1,r3⟩
theorem BR:ek X (.builtin "abs") (fun xs H Q=>∃ i,xs=[.int i]∧Q (.int (if i < 0 then -i else i)) H):=by
 intro pins s σ H xs us Q I r h
 obtain⟨i,rfl,q⟩:=h
 obtain⟨u,rfl,t,rfl⟩:=vals1 r
 exact call_abs_int fun u tk=>⟨.int (if i < 0 then -i else i),H,I.tok _,⟨_,rfl⟩,q⟩
theorem zC (hc:X.calm=true):ek X (.builtin "max") (fun xs H Q=>∃ i j,xs=[.int i,.int j]∧Q (.int (if j > i then j else i)) H):=by
 intro pins s σ H xs us Q I r h
 obtain⟨i,j,rfl,q⟩:=h
 obtain⟨u,w',rfl,⟨t,rfl⟩,⟨t',rfl⟩⟩:=vals2 r
 refine max_two_ints (I.ok.hd hc) fun h' tk k=>⟨_,H,I.kept k,?_,q⟩
 by_cases hj:j > i
 ·rw[if_pos hj,if_pos hj];exact⟨_,rfl⟩
 ·rw[if_neg hj,if_neg hj];exact⟨_,rfl⟩
theorem zB (hc:X.calm=true):ek X (.builtin "min") (fun xs H Q=>∃ i j,xs=[.int i,.int j]∧Q (.int (if j < i then j else i)) H):=by
 intro pins s σ H xs us Q I r h
 obtain⟨i,j,rfl,q⟩:=h
 obtain⟨u,w',rfl,⟨t,rfl⟩,⟨t',rfl⟩⟩:=vals2 r
 refine min_two_ints (I.ok.hd hc) fun h' tk k=>⟨_,H,I.kept k,?_,q⟩
 by_cases hj:j < i
 ·rw[if_pos hj,if_pos hj];exact⟨_,rfl⟩
 ·rw[if_neg hj,if_neg hj];exact⟨_,rfl⟩
theorem zD:ek X (.type "int") (fun xs H Q=>(∃ i,xs=[.int i]∧Q (.int i) H)∨∃ k,xs=[.bl k]∧Q (.int (if k then 1 else 0)) H):=by
 intro pins s σ H xs us Q I r h
 rcases h with ⟨i,rfl,q⟩ | ⟨k,rfl,q⟩
 ·obtain⟨u,rfl,t,rfl⟩:=vals1 r
  exact call_int_int ⟨.int i,H,I,⟨_,rfl⟩,q⟩
 ·obtain⟨u,rfl,r1⟩:=vals1 r
  cases r1
  exact call_int_bool ⟨.int (if k then 1 else 0),H,I.tok _,⟨_,rfl⟩,q⟩
def Ka (K:PySem.W.Frag) (x:V) (H:Hp) (n:Nat):Prop:=
 match x with
 | .str y=>y.length≤sizeLine∧n=y.length
 | .byt y=>y.size≤sizeLine∧n=y.size
 | .ref p=>(∃ xs,SqL K H p xs∧n=xs.length)∨∃ xs,SqT K H p xs∧n=xs.length
 | _=>False
end
end L2
namespace L2
open PySem PySem.Spec PyProof.Rows
structure xT (h:Heap) (x dx C:Addr) (mA:Str→Option Value):Prop where
 obj:h.get? x=some (PySem.W.instObj C dx)
 ns:h.Ns1 dx mA
 ne:dx≠x
theorem zp {h:Heap} {dx:Addr} {mA:Str→Option Value} (n:h.Ns1 dx mA):∃ od,h.get? dx=some od∧∀ name,PySem.W.lookIn name od=some (mA name):=by
 obtain⟨o,es,ep,ho,hd,hk,_,hm⟩:=n
 refine⟨o,ho,fun name=>?_⟩
 have e:=hm name
 unfold nsFind findBy at e
 rw[← Array.find?_toList] at e
 unfold PySem.W.lookIn
 rw[hd]
 dsimp only
 split
 ·rename_i y q
  rw[q] at e
  exact congrArg some e
 ·rename_i q
  rw[q] at e
  have a:es.toList.any (·.refKey)=false:=by
   rw[List.any_eq_false]
   intro y hy
   obtain⟨z,t,hkey⟩:=hk y (Array.mem_toList_iff.mp hy)
   simp [DictEntry.refKey,hkey]
  have a':¬ es.toList.any (·.refKey)=true:=by rw[a];exact Bool.false_ne_true
  rw[if_neg a']
  exact congrArg some e
theorem xT.look {h:Heap} {x dx C:Addr} {mA:Str→Option Value} (I:xT h x dx C mA):∃ od,PySem.W.InstAt h x (PySem.W.instObj C dx) C (some od)∧∀ name,PySem.W.lookIn name od=some (mA name):=
 let ⟨od,ho,hl⟩:=zp I.ns
 ⟨od,⟨I.obj,rfl,rfl,ho⟩,hl⟩
section
variable {prog:Program} {w:World} {A:Around} {E:Value→Shared→Prop} {s:Shared} {K:PySem.W.Frag} {x dx C f:Addr} {mA:Str→Option Value} {name:Str} {v:Value}
theorem get_map {expr:Bool} {Q:Value→Shared→Prop} (X:K.In s.heap) (I:xT s.heap x dx C mA) (hg:PySem.W.plainGet K C name=true) (hh:PySem.W.hasDictIn K C=true)
  (ha:PySem.W.findIn K (.ref C) name=some none) (hv:mA name=some v) (hv':PySem.W.handedIn v=true) (h:Q v { s with toks:=s.toks + 1 }) :
  wpAny (model prog w) A (getAttr (.ref x) name expr) Q E s:=by
 obtain⟨od,J,hl⟩:=I.look
 exact PySem.W.get_value X J (PySem.W.plainGet_of hg).1 (PySem.W.findObj_own hh ha rfl (by rw[hl,hv])) hv' h
theorem Bq {pl:Sem Bool} {Q:Value×List Value→Shared→Prop} (X:K.In s.heap) (I:xT s.heap x dx C mA) (hg:PySem.W.plainGet K C name=true)
  (hf:PySem.W.findIn K (.ref C) name=some (some (.ref f))) (ht:PySem.W.isFn K (.ref f)=true) (hv:mA name=none) (h:Q (.ref f,[.ref x]) s) :
  wpAny (model prog w) A (getMethod (.ref x) name pl) Q E s:=by
 obtain⟨od,J,hl⟩:=I.look
 exact PySem.W.method_fn X J (PySem.W.plainGet_of hg).1 (PySem.W.plainGet_of hg).2 hf (beq_iff_eq.mp ht) (by show (PySem.W.lookIn name od).map (·.isSome)=some false;rw[hl,hv];rfl) h
theorem Co {ns:List Str} {Q:Unit→Shared→Prop} (X:K.In s.heap) (I:xT s.heap x dx C mA)
  (hs:PySem.W.findIn K (.ref C) "__setattr__"=some (some (.builtin "object.__setattr__"))) (hp:PySem.W.plainOver K C=true) (ht:PySem.W.takerIn K C name=some none) (hh:PySem.W.hasDictIn K C=true)
  (hw:PySem.Within mA ns) (hsz:ns.length≤sizeLine)
  (h:∀ h',xT h' x dx C (fun y=>if y=name then some v else mA y)→Heap.SameBut dx s.heap h'→Q () { s with heap:=h',toks:=s.toks + 2 }) :
  wpAny (model prog w) A (setAttr (.ref x) name v) Q E s:=by
 obtain⟨od,J,hl⟩:=I.look
 refine PySem.W.set_plain X J hs (PySem.W.osa_open (s:={ s with toks:=s.toks + 1 }) (r:=none) X J hp ht fun b=>?_)
 obtain⟨cd,hc,hd'⟩:=PySem.W.any_some hh
 have hx:s.heap.get? x=some ⟨.ref C,some dx,.plain,#[]⟩:=I.obj
 refine wpAny_bind (wpAny_pure (wpAny_bind (wpAny_bind (wpAny_loadPart hx (wpAny_bind (PySem.W.Looks.here (s:={ s with toks:=s.toks + 1 }) (PySem.W.looks_clsIn X hc) ?_))))))
 rw[hd']
 refine wpAny_pure (a:=some dx) (wpAny_bind (wpAny_pure (wpAny_bind ?_)))
 refine wpAny_nsSet1 (s:={ s with toks:=s.toks + 1 }) I.ns fun h' hn2 hs2=>?_
 obtain⟨oD,esD,epD,hoD,hdD,hcD⟩:=hn2.count (PySem.Within.cons name v hw)
 refine wpAny_bind (wpAny_lookBehind hoD (by rw[hdD];exact pastItsLine_dict (Nat.le_trans hcD (by rw[List.length_cons];omega))) ?_)
 exact wpAny_pure (h _ ⟨(hs2.2 _ (Ne.symm I.ne)).trans I.obj,hn2,I.ne⟩ hs2)
theorem AZ {R:Result→Shared→Prop} {vs:List Value} {kw:List (Str×Value)} (X:K.In s.heap) (hm:PySem.W.makesIn K C=true)
  (hi:PySem.W.findIn K (.ref C) "__init__"=some (some (.ref f))) (hf:PySem.W.typeIn K (.ref f)=some (.type "function"))
  (h:codeAny (model prog w) (A.under (.builtin "type.__call__" ⟨.ref C::vs,kw⟩)) (.call (.ref f) ⟨.ref (s.heap.objs.size + 1)::vs,kw⟩) (PySem.W.InitBack (s.heap.objs.size + 1) R)
   { s with heap:=(s.heap.push PySem.W.emptyDict).push (PySem.W.instObj C s.heap.objs.size) }) :
  codeAny (model prog w) A (.call (.ref C) ⟨vs,kw⟩) R s:=by
 obtain⟨hh,g,d,t,os⟩:=s
 exact PySem.W.make_core (PySem.W.makes_of X hm) (PySem.W.looks_findIn X hi) (fun self=>PySem.W.bind_fn X self hf) (.inl rfl) h
theorem zj {R:Result→Shared→Prop} (X:K.In s.heap) (hm:PySem.W.makesIn K C=true)
  (hi:PySem.W.findIn K (.ref C) "__init__"=some (some (.builtin "object.__init__")))
  (hb:∀ self,PySem.W.Looks (model prog w) s.heap (bindSpecial (.builtin "object.__init__") self) (.builtin "object.__init__",[self]))
  (h:codeAny (model prog w) (A.under (.builtin "type.__call__" ⟨[.ref C],[]⟩)) (.call (.builtin "object.__init__") ⟨[.ref (s.heap.objs.size + 1)],[]⟩) (PySem.W.InitBack (s.heap.objs.size + 1) R)
   { s with heap:=(s.heap.push PySem.W.emptyDict).push (PySem.W.instObj C s.heap.objs.size) }) :
  codeAny (model prog w) A (.call (.ref C) ⟨[],[]⟩) R s:=by
 obtain⟨hh,g,d,t,os⟩:=s
 exact PySem.W.make_core (PySem.W.makes_of X hm) (PySem.W.looks_findIn X hi) hb (.inr ⟨rfl,rfl⟩) h
end
def j7 (f:Str) (v:V):List (Str×V)→List (Str×V)
 | []=>[(f,v)]
 | (g,x)::r=>if g=f then (g,v)::r else (g,x)::j7 f v r
theorem pd (f g:Str) (v:V):∀ fs:List (Str×V),(j7 f v fs).lookup g=if g=f then some v else fs.lookup g
 | []=>by
  show List.lookup g [(f,v)]=_
  by_cases h:g=f
  ·have hb:(g == f)=true:=beq_iff_eq.mpr h
   simp only[List.lookup,hb,if_pos h]
  ·have hb:(g == f)=false:=beq_eq_false_iff_ne.mpr h
   simp only[List.lookup,hb,if_neg h]
 | (k,x)::r=>by
  have ih:=pd f g v r
  rw[show j7 f v ((k,x)::r)=(if k=f then (k,v)::r else (k,x)::j7 f v r) from rfl]
  by_cases hk:k=f
  ·rw[if_pos hk]
   by_cases h:g=k
   ·have hb:(g == k)=true:=beq_iff_eq.mpr h
    simp only[List.lookup,hb,if_pos (h.trans hk)]
   ·have hb:(g == k)=false:=beq_eq_false_iff_ne.mpr h
    simp only[List.lookup,hb,if_neg (fun e:g=f=>h (e.trans hk.symm))]
  ·rw[if_neg hk]
   by_cases h:g=k
   ·have hb:(g == k)=true:=beq_iff_eq.mpr h
    simp only[List.lookup,hb,if_neg (fun e:g=f=>hk (h.symm.trans e))]
   ·have hb:(g == k)=false:=beq_eq_false_iff_ne.mpr h
    simp only[List.lookup,hb]
    exact ih
theorem oy (f:Str) (v:V):∀ fs:List (Str×V),f∈(j7 f v fs).map (·.1)∧∀ g,g∈fs.map (·.1)→g∈(j7 f v fs).map (·.1)
 | []=>⟨by simp [j7],fun g h=>by simp at h⟩
 | (k,x)::r=>by
  obtain⟨i1,i2⟩:=oy f v r
  rw[show j7 f v ((k,x)::r)=(if k=f then (k,v)::r else (k,x)::j7 f v r) from rfl]
  by_cases hk:k=f
  ·rw[if_pos hk]
   subst hk
   exact⟨by simp,fun g h=>by simpa using h⟩
  ·rw[if_neg hk]
   refine⟨?_,fun g h=>?_⟩
   ·rw[List.map_cons]
    exact List.mem_cons_of_mem _ i1
   ·rw[List.map_cons] at h ⊢
    rcases List.mem_cons.mp h with e | e
    ·exact List.mem_cons.mpr (.inl e)
    ·exact List.mem_cons_of_mem _ (i2 g e)
theorem pf (f:Str) (v:V):∀ fs:List (Str×V),(j7 f v fs).length≤fs.length + 1
 | []=>by simp [j7]
 | (k,x)::r=>by
  have ih:=pf f v r
  rw[show j7 f v ((k,x)::r)=(if k=f then (k,v)::r else (k,x)::j7 f v r) from rfl]
  by_cases hk:k=f
  ·rw[if_pos hk,List.length_cons,List.length_cons];omega
  ·rw[if_neg hk,List.length_cons,List.length_cons];omega
theorem rV.some_of {v:V} {o:Option Value} (r:rV (some v) o):∃ u,o=some u∧RelV v u:=by
 cases o with
 | none=>exact(show False from r).elim
 | some u=>exact⟨u,rfl,r⟩
theorem rV.none_of {o:Option Value} (r:rV none o):o=none:=by
 cases o with
 | none=>rfl
 | some u=>exact(show False from r).elim
theorem zx {v:V} {u:Value} (r:RelV v u):PySem.W.handedIn u=true:=by
 cases v with
 | non=>cases (show u=Value.none from r);rfl
 | bl b=>cases (show u=Value.bool b from r);rfl
 | int i=>obtain⟨t,e⟩:=(show ∃ t,u=Value.int i t from r);cases e;rfl
 | str x=>obtain⟨t,e⟩:=(show ∃ t,u=Value.str x t from r);cases e;rfl
 | byt b=>obtain⟨t,e⟩:=(show ∃ t,u=Value.bytes b t from r);cases e;rfl
 | flt b=>obtain⟨t,e⟩:=(show ∃ t,u=Value.float b t from r);cases e;rfl
 | ref a=>cases (show u=Value.ref a from r);rfl
 | ty n=>cases (show u=Value.type n from r);rfl
section
variable {P:Program} {w:World} {H H':Hp} {h h':Heap} {a C dx:Addr} {fs fs':List (Str×V)}
theorem qc (hok:HOk P w H h) (e:H a=some (.ins C dx fs)):∃ mA,xT h a dx C mA∧(∀ f,rV (fs.lookup f) (mA f))∧PySem.Within mA (fs.map (·.1))∧fs.length≤1000∧H dx=some (.own a):=by
 obtain⟨d,z,ne,ob,mA,n,r,q⟩:=(show eO P w H h a (.ins C dx fs) from hok a _ e)
 exact⟨mA,⟨ob,n,ne⟩,r,q,z,d⟩
end
structure Cls (K:PySem.W.Frag) (C:Addr):Prop where
 pg:PySem.W.plainGet K C Str.empty=true
 hd:PySem.W.hasDictIn K C=true
 po:PySem.W.plainOver K C=true
 sa:PySem.W.findIn K (.ref C) "__setattr__"=some (some (.builtin "object.__setattr__"))
theorem Cls.get {K:PySem.W.Frag} {C:Addr} (c:Cls K C) (f:Str):PySem.W.plainGet K C f=true:=c.pg
def fA (K:PySem.W.Frag) (C:Addr) (f:Str):Prop:=PySem.W.findIn K (.ref C) f=some none
theorem fA.GD {K:PySem.W.Frag} {C:Addr} {f:Str} (n:fA K C f):PySem.W.takerIn K C f=some none:=by
 unfold PySem.W.takerIn
 rw[show PySem.W.findIn K (.ref C) f=some none from n]
 rfl
structure Con (K:PySem.W.Frag) (C:Addr) (f:Str) (v:V) (u:Value):Prop where
 at_:PySem.W.findIn K (.ref C) f=some (some u)
 rel:RelV v u
 get:PySem.W.specialIn K u "__get__"=some none
 cp:PySem.W.copiedNames.contains f=false
structure Meth (K:PySem.W.Frag) (C:Addr) (m:Str) (f:Addr):Prop where
 at_:PySem.W.findIn K (.ref C) m=some (some (.ref f))
 fn:PySem.W.isFn K (.ref f)=true
 kp:PySem.W.keepIn K (.ref f)=true
section
variable {X:Cx} {pins:List (Addr×Obj)} {σ:St} {H:Hp} {s:Shared} {a C dx:Addr} {fs:List (Str×V)} {f:Str} {v:V} {A:Around} {E:Value→Shared→Prop}
theorem xA {b:Bool} {Q:Value→Shared→Prop} (I:Inv X pins σ H s) (e:H a=some (.ins C dx fs)) (c:Cls X.K C) (n:fA X.K C f) (l:fs.lookup f=some v)
  (h:∀ u s',Inv X pins σ H s'→RelV v u→Q u s'):wpAny (model X.prog X.w) A (getAttr (.ref a) f b) Q E s:=by
 obtain⟨mA,O,r,_,_,_⟩:=qc I.hok e
 obtain⟨u,hu,ru⟩:=rV.some_of (v:=v) (o:=mA f) (by rw[← l];exact r f)
 exact get_map I.kIn O (c.get f) c.hd n hu (zx ru) (h u _ (I.tok _) ru)
theorem mi {m:Str} {g:Addr} {pl:Sem Bool} {Q:Value×List Value→Shared→Prop} (I:Inv X pins σ H s) (e:H a=some (.ins C dx fs)) (c:Cls X.K C) (k:Meth X.K C m g) (l:fs.lookup m=none)
  (h:Q (.ref g,[.ref a]) s):wpAny (model X.prog X.w) A (getMethod (.ref a) m pl) Q E s:=by
 obtain⟨mA,O,r,_,_,_⟩:=qc I.hok e
 have hn:mA m=none:=rV.none_of (by rw[← l];exact r m)
 exact Bq I.kIn O (c.get m) k.at_ k.fn hn h
theorem wN {y:V} {u:Value} {Q:Unit→Shared→Prop} (I:Inv X pins σ H s) (e:H a=some (.ins C dx fs)) (c:Cls X.K C) (n:fA X.K C f) (hl:fs.length < 1000) (ry:RelV y u)
  (h:∀ s',Inv X pins σ (upd H a (.ins C dx (j7 f y fs))) s'→Q () s'):wpAny (model X.prog X.w) A (setAttr (.ref a) f u) Q E s:=by
 obtain⟨mA,O,r,wi,_,ho⟩:=qc I.hok e
 have hz:(fs.map (·.1)).length≤sizeLine:=by rw[List.length_map,sizeLine_eq];omega
 refine Co I.kIn O c.sa c.po n.GD c.hd wi hz fun h' O' sb=>h _ ?_
 have hd:∃ o,h'.get? dx=some o:=let ⟨o,_,_,e',_⟩:=O'.ns;⟨o,e'⟩
 refine I.write (x:=a) (e:=dx) (by rw[e];exact True.intro) (.inr ho) (fun b q hb z=>(sb.2 b hb).trans z) hd ?_
 refine⟨by rw[aj O.ne];exact ho,?_,O.ne,O'.obj,_,O'.ns,fun g=>?_,fun g hg=>?_⟩
 ·have:=pf f y fs;omega
 ·show rV ((j7 f y fs).lookup g) (if g=f then some u else mA g)
  rw[pd]
  by_cases q:g=f
  ·rw[if_pos q,if_pos q];exact ry
  ·rw[if_neg q,if_neg q];exact r g
 ·by_cases q:g=f
  ·rw[q];exact(oy f y fs).1
  ·refine(oy f y fs).2 g (wi g fun z=>hg ?_)
   show (if g=f then some u else mA g)=none
   rw[if_neg q];exact z
theorem Inv.made (I:Inv X pins σ H s):Inv X pins σ (upd (upd H s.heap.objs.size (.own (s.heap.objs.size + 1))) (s.heap.objs.size + 1) (.ins C s.heap.objs.size []))
  { s with heap:=(s.heap.push PySem.W.emptyDict).push (PySem.W.instObj C s.heap.objs.size) }:=by
 have e1:(s.heap.push PySem.W.emptyDict).get? s.heap.objs.size=some PySem.W.emptyDict:=Heap.get?_push_size s.heap rfl
 have e2:((s.heap.push PySem.W.emptyDict).push (PySem.W.instObj C s.heap.objs.size)).get? (s.heap.objs.size + 1)=some (PySem.W.instObj C s.heap.objs.size):=by
  have:=Heap.get?_push_size (s.heap.push PySem.W.emptyDict) (o:=PySem.W.instObj C s.heap.objs.size) rfl
  rwa [Heap.size_push] at this
 have e3:(s.heap.push PySem.W.emptyDict).Ns s.heap.objs.size (fun _=>none):=⟨PySem.W.emptyDict,#[],_,e1,rfl,(fun e he=>absurd he (by simp)),fun _=>rfl⟩
 have I1:=I.laid (a:=s.heap.objs.size) (o:=.own (s.heap.objs.size + 1)) (h':=s.heap.push PySem.W.emptyDict) (t':=s.toks) (fun b u q=>Heap.get?_push_of_some _ q) (Nat.le_refl _) ⟨_,e1⟩
 refine I1.laid (a:=s.heap.objs.size + 1) (o:=.ins C s.heap.objs.size []) (t':=s.toks) (fun b u q=>Heap.get?_push_of_some _ q) (Nat.le_of_eq (Heap.size_push _ _)) ?_
 have ne:s.heap.objs.size≠s.heap.objs.size + 1:=Nat.ne_of_lt (Nat.lt_succ_self _)
 refine⟨by rw[aj ne,aC],Nat.zero_le _,ne,e2,fun _=>none,(Heap.Ns1.of_empty e3).at fun o q=>Heap.get?_push_of_some _ q,fun _=>True.intro,fun y hy=>absurd rfl hy⟩
theorem DG {prog:Program} {w:World} {env:Env} {e:Expr} {f:Str} {pos:Pos} {s:Shared} {Q:Value→Shared→Prop} (hb:attributeBase e f env (eval e env)=eval e env)
  (h:wpAny (model prog w) A (eval e env) (fun o s₁=>wpAny (model prog w) A (getAttr o f true) Q E s₁) E s):wpAny (model prog w) A (eval (.Attribute e f pos) env) Q E s:=
 Attribute_any_ h (by rw[arm_eval_Attribute,hb])
end
def GL (K:PySem.W.Frag) (ta:TE) (f:Str):TE:=fun σ H Q=>ta σ H fun x H1=>∃ a C dx fs v,x=.ref a∧H1 a=some (.ins C dx fs)∧Cls K C∧fA K C f∧fs.lookup f=some v∧Q v H1
def JR (K:PySem.W.Frag) (ta:TE) (f:Str):TE:=fun σ H Q=>ta σ H fun x H1=>∃ a C dx fs v u,x=.ref a∧H1 a=some (.ins C dx fs)∧Cls K C∧Con K C f v u∧fs.lookup f=none∧Q v H1
def EN (K:PySem.W.Frag) (ta tv:TE) (f:Str):TS:=fun D σ H=>tv σ H fun y H1=>ta σ H1 fun x H2=>∃ a C dx fs,x=.ref a∧H2 a=some (.ins C dx fs)∧Cls K C∧fA K C f∧fs.length < 1000∧
 D.nx σ (upd H2 a (.ins C dx (j7 f y fs)))
def Kb (X:Cx) (op:Operator) (rd:V→V→Hp→VK→Prop):Prop:=
 ∀ (pins:List (Addr×Obj)) (s:Shared) (σ:St) (H:Hp) (x y:V) (u v:Value) (Q:VK),Inv X pins σ H s→RelV x u→RelV y v→rd x y H Q→wpAny (model X.prog X.w) X.A (inplaceOp op u v) (EP X pins σ Q) X.xe s
def Ip (K:PySem.W.Frag) (ta tv:TE) (rd:V→V→Hp→VK→Prop) (f:Str):TS:=fun D σ H=>ta σ H fun x H1=>∃ a C dx fs v,x=.ref a∧H1 a=some (.ins C dx fs)∧Cls K C∧fA K C f∧fs.lookup f=some v∧
 tv σ H1 fun y H2=>rd v y H2 fun z H3=>∃ dx' fs',H3 a=some (.ins C dx' fs')∧fs'.length < 1000∧D.nx σ (upd H3 a (.ins C dx' (j7 f z fs')))
section
variable {X:Cx} {o e value:Expr} {f:Str} {pos pos' tpos:Pos} {ta tv:TE}
theorem Fi (he:PE X e ta) (hb:attributeBase e f X.env (eval e X.env)=eval e X.env):PE X (.Attribute e f pos) (GL X.K ta f):=by
 intro pins s σ H Q I h
 refine DG hb (thn (he pins s σ H _ I h) fun u s1 ⟨x,H1,I1,rx,a,C,dx,fs,v,ex,ea,c,n,l,q⟩=>?_)
 subst ex
 obtain rfl:u=Value.ref a:=rx
 exact xA I1 ea c n l fun u' s2 I2 ru=>⟨v,H1,I2,ru,q⟩
theorem E7 (ha:PE X o ta) (hv:PE X value tv) (hs:swapsWith value (some (.Attribute o f pos')) pos.line X.env=pure false):PS X (.Assign [.Attribute o f pos'] value pos) (EN X.K ta tv f):=by
 intro pins s σ H D I h
 refine plainObj_wpAny_Assign_Attribute (thn (hv pins s σ H _ I h) fun u s1 ⟨y,H1,I1,ry,q⟩=>thn (ha pins s1 σ H1 _ I1 q) fun ov s2 ⟨x,H2,I2,rx,a,C,dx,fs,ex,ea,c,n,l,q2⟩=>?_) hs
 subst ex
 obtain rfl:ov=Value.ref a:=rx
 exact wN I2 ea c n l ry fun s3 I3=>⟨σ,_,I3,q2⟩
def CD:V→V→Hp→VK→Prop:=fun x y H Q=>∃ i j,x=.int i∧y=.int j∧Q (.int (i + j)) H
def JU:V→V→Hp→VK→Prop:=fun x y H Q=>∃ i j,x=.int i∧y=.int j∧Q (.int (i - j)) H
theorem D2 {pl:Sem Bool} {m:Str} {apos:Pos} {args:List Expr} {pins:List (Addr×Obj)} {s:Shared} {σ:St} {H:Hp} {Q:Value→Shared→Prop} {te:TE} (he:PE X e te) (I:Inv X pins σ H s)
  (h:te σ H fun x H1=>∃ a C dx fs g,x=.ref a∧H1 a=some (.ins C dx fs)∧Cls X.K C∧Meth X.K C m g∧fs.lookup m=none∧
   ∀ s1,Inv X pins σ H1 s1→wpAny (model X.prog X.w) X.A (callWith pos (.ref g) [.ref a] (backTo pos (starEach args X.env)) (backToKw pos (keywordEach [] X.env))) Q X.xe s1)
  (ht:eval (.Call (.Attribute e m apos) args [] pos) X.env=(do
   let ov ← eval e X.env
   standAt apos.atName
   let (f,first) ← holding [ov] (getMethod ov m pl)
   callWith pos f first (backTo pos (starEach args X.env)) (backToKw pos (keywordEach [] X.env)))) :
  wpAny (model X.prog X.w) X.A (eval (.Call (.Attribute e m apos) args [] pos) X.env) Q X.xe s:=by
 refine PySem.W.methodCall_KW (pl:=pl) (thn (he pins s σ H _ I h) fun u s1 ⟨x,H1,I1,rx,a,C,dx,fs,g,ex,ea,c,k,l,q⟩=>?_) ht
 subst ex
 obtain rfl:u=Value.ref a:=rx
 exact mi I1 ea c k l (q s1 I1)
end
section
variable {X:Cx} {pins:List (Addr×Obj)} {σ:St} {H:Hp} {s:Shared} {A:Around} {E:Value→Shared→Prop} {Q:Value→Shared→Prop} {c:Value} {b:Bool}
inductive oX (K:PySem.W.Frag) (H:Hp):V→Value→Prop where
 | non:oX K H .non (.type "NoneType")
 | bl (x:Bool):oX K H (.bl x) (.type "bool")
 | int (i:Int):oX K H (.int i) (.type "int")
 | str (x:Str):oX K H (.str x) (.type "str")
 | flt (x:UInt64):oX K H (.flt x) (.type "float")
 | lst {a:Addr} {xs:List V} (e:H a=some (.lst xs)):oX K H (.ref a) (.type "list")
 | frz {a:Addr} {o:Obj} {xs:List V} (e:H a=some (.frz o (.lst xs))):oX K H (.ref a) (.type "list")
 | tup {a:Addr} {xs:List V} (e:H a=some (.tup xs)):oX K H (.ref a) (.type "tuple")
 | dK {a:Addr} {kvs:List (Key×V)} (e:H a=some (.dK kvs)):oX K H (.ref a) (.type "dict")
 | dT {a:Addr} {kvs:List (List Key×V)} (e:H a=some (.dT kvs)):oX K H (.ref a) (.type "dict")
 | ins {a C dx:Addr} {fs:List (Str×V)} (e:H a=some (.ins C dx fs)) (cl:Cls K C) (ha:PySem.W.findIn K (.ref C) "__class__"=some (some (.builtin "object.__class__")))
   (hn:PySem.W.specialIn K (.builtin "object.__class__") "__get__"=some (some (.builtin "getset_descriptor.__get__"))) (htk:PySem.W.takesIn K (.builtin "object.__class__")=some true)
   (hm:PySem.W.mroIn K C (.type "object")=some true):oX K H (.ref a) (.ref C)
theorem zu {x:V} {u t:Value} (I:Inv X pins σ H s) (rx:RelV x u) (ty:oX X.K H x t) (e:PySem.W.kitOne X.K t c=some b) (h:∀ tk,Q (.bool b) { s with toks:=tk }) :
  wpAny (model X.prog X.w) A (call (.builtin "isinstance") [u,c]) Q E s:=by
 cases ty with
 | non=>cases (show u=Value.none from rx);exact PySem.W.kia_one PySem.W.kitx_none I.kIn True.intro e (fun z=>nomatch z) h
 | bl y=>cases (show u=Value.bool y from rx);exact PySem.W.kia_one PySem.W.kitx_bool I.kIn True.intro e (fun z=>nomatch z) h
 | int i=>obtain⟨t,q⟩:=(show ∃ t,u=Value.int i t from rx);cases q;exact PySem.W.kia_one PySem.W.kitx_int I.kIn True.intro e (fun z=>nomatch z) h
 | str y=>obtain⟨t,q⟩:=(show ∃ t,u=Value.str y t from rx);cases q;exact PySem.W.kia_one PySem.W.kitx_str I.kIn True.intro e (fun z=>nomatch z) h
 | flt y=>obtain⟨t,q⟩:=(show ∃ t,u=Value.float y t from rx);cases q;exact PySem.W.kia_one PySem.W.kitx_float I.kIn True.intro e (fun z=>nomatch z) h
 | @lst a xs ea=>
  cases (show u=Value.ref a from rx)
  obtain⟨_,_,n,_,h1⟩:=(show eO X.prog X.w H s.heap a (.lst xs) from I.hok a _ ea)
  exact PySem.W.kia_one PySem.W.kitx_list I.kIn ⟨_,h1,rfl⟩ e (fun z=>nomatch z) h
 | @frz a ob xs ea=>
  cases (show u=Value.ref a from rx)
  obtain⟨_,_,_,n,_,h1⟩:=(show eO X.prog X.w H s.heap a (.frz ob (.lst xs)) from I.hok a _ ea)
  exact PySem.W.kia_one PySem.W.kitx_list I.kIn ⟨_,h1,rfl⟩ e (fun z=>nomatch z) h
 | @tup a xs ea=>
  cases (show u=Value.ref a from rx)
  obtain⟨_,_,_,p⟩:=(show eO X.prog X.w H s.heap a (.tup xs) from I.hok a _ ea)
  obtain⟨o,h1,h2,_⟩:=p
  exact PySem.W.kia_one PySem.W.kitx_tuple I.kIn ⟨o,h1,h2⟩ e (fun z=>nomatch z) h
 | @dK a kvs ea=>
  cases (show u=Value.ref a from rx)
  obtain⟨_,_,vs,_,p⟩:=(show eO X.prog X.w H s.heap a (.dK kvs) from I.hok a _ ea)
  obtain⟨o,es,ep,h1,h2,_⟩:=p
  exact PySem.W.kia_one PySem.W.kitx_dict I.kIn ⟨o,h1,h2.1⟩ e (fun z=>nomatch z) h
 | @dT a kvs ea=>
  cases (show u=Value.ref a from rx)
  obtain⟨_,_,xs,_,o,es,ep,h1,h2,_⟩:=(show eO X.prog X.w H s.heap a (.dT kvs) from I.hok a _ ea)
  exact PySem.W.kia_one PySem.W.kitx_dict I.kIn ⟨o,h1,h2.1⟩ e (fun z=>nomatch z) h
 | @ins a C dx fs ea cl ha hn htk hm=>
  cases (show u=Value.ref a from rx)
  obtain⟨mA,O,_⟩:=qc I.hok ea
  obtain⟨od,J,_⟩:=O.look
  exact PySem.W.kia_one (PySem.W.kitx_own (cl.get _) cl.hd ha hn htk hm) I.kIn J e (fun z=>nomatch z) h
end
end L2
namespace L2
open PySem PySem.Spec PyProof.Rows
structure dQ (k:Nat) (A:Around):Prop where
 hd:A.handled=none
 dp:A.depth + 3 * k + 5 < recursionLimit
 un:A.units + 16 * k + 200 < cLine
 gd:A.guards=some []
theorem dQ.mono {j k:Nat} {A:Around} (r:dQ k A) (h:j≤k):dQ j A:=⟨r.hd,by have:=r.dp;omega,by have:=r.un;omega,r.gd⟩
theorem dQ.deeper {k:Nat} {A:Around} (r:dQ (k + 1) A) (env:Env):dQ k (A.deeper env):=
 ⟨r.hd,by have:=r.dp;show A.depth + 1 + 3 * k + 5 < _;omega,by have:=r.un;show A.units + 3 + 16 * k + 200 < _;omega,r.gd⟩
theorem xn {A:Around} {C:Addr} {us:List Value} {kw:List (Str×Value)}:(A.under (.builtin "type.__call__" ⟨.ref C::us,kw⟩)).depth=A.depth + 1:=by
 first | rfl | simp [Around.under,Code.weight,Code.isCreation,Code.isGuard,Code.isCaller,Code.frames,Code.isFrame,guardIds]
theorem xm {A:Around} {C:Addr} {us:List Value} {kw:List (Str×Value)}:(A.under (.builtin "type.__call__" ⟨.ref C::us,kw⟩)).units=A.units + 1:=by
 first | rfl | simp [Around.under,Code.cUnits,Code.frames,Code.isFrame]
theorem vG {A:Around} {C:Addr} {us:List Value} {kw:List (Str×Value)}:(A.under (.builtin "type.__call__" ⟨.ref C::us,kw⟩)).guards=A.guards:=by
 first | rfl | simp [Around.under,pushGuards,Code.guards,Code.isGuard,guardIds] | (cases A;simp [Around.under,pushGuards,Code.guards,Code.isGuard,guardIds])
theorem dQ.make {k:Nat} {A:Around} (r:dQ (k + 1) A) (C:Addr) (us:List Value) (kw:List (Str×Value)):dQ k (A.under (.builtin "type.__call__" ⟨.ref C::us,kw⟩)):=
 ⟨r.hd,by have:=r.dp;rw[xn];omega,by have:=r.un;rw[xm];omega,by have:=r.gd;rw[vG];exact this⟩
theorem dQ.depth {k:Nat} {A:Around} (r:dQ k A):A.depth < recursionLimit:=by have:=r.dp;omega
theorem dQ.units {k:Nat} {A:Around} (r:dQ k A):A.units + 64 < cLine:=by have:=r.un;omega
def mM:TA:=fun _ H Q=>Q [] H
def iN (ta:TE) (tr:TA):TA:=fun σ H Q=>ta σ H fun x H1=>tr σ H1 fun xs H2=>Q (x::xs) H2
section
variable {X:Cx} {e:Expr} {es:List Expr} {te:TE} {t:TA} {pos:Pos}
theorem lY:PA X [] mM:=fun _ _ _ _ H Q I h=>Calls.spliced_nil ⟨[],H,I,.nil,h⟩
theorem f_ (ha:PE X e te) (hr:PA X es t) (hs:starEach (e::es) X.env=(false,eval e X.env)::starEach es X.env:=by rfl):PA X (e::es) (iN te t):=by
 intro pos pins s σ H Q I h
 rw[hs]
 show wpAny _ _ (spliced ((false,eval e X.env)::backTo pos (starEach es X.env))) _ _ s
 refine Calls.spliced_cons (thn (ha pins s σ H _ I h) fun u s1 ⟨x,H1,I1,r1,q1⟩=>?_)
 exact thn (hr pos pins s1 σ H1 _ I1 q1) fun us s2 ⟨xs,H2,I2,r2,q2⟩=>⟨x::xs,H2,I2,.cons r1 r2,q2⟩
def Cg (t:TA):TE:=fun σ H Q=>t σ H fun xs H1=>xs.length≤sizeLine∧∀ p,H1 p=none→Q (.ref p) (upd H1 p (.tup xs))
def GI (t:TA):TE:=fun σ H Q=>t σ H fun xs H1=>xs.length≤sizeLine∧∀ p,H1 p=none→Q (.ref p) (upd H1 p (.lst xs))
theorem wX {x1} (h:PA X es t):PE X (.Tuple es x1 pos) (Cg t):=by
 intro pins s σ H Q I hq
 refine wpAny_Tuple_spliced (thn (h pos pins s σ H _ I hq) fun us s1 ⟨xs,H1,I1,r,z,q⟩=>⟨by rw[← r.length];exact z,?_⟩)
 have hf:H1 s1.heap.objs.size=none:=I1.hok.fresh (Nat.le_refl _)
 refine⟨.ref s1.heap.objs.size,upd H1 s1.heap.objs.size (.tup xs),I1.laid (t':=s1.toks) (fun b u e=>Heap.get?_push_of_some _ e) (Nat.le_refl _) ?_,rfl,q _ hf⟩
 exact⟨z,us,r,⟨_,Heap.get?_push_size _ rfl,rfl,_,rfl⟩⟩
theorem Fh (h:PA X es t):PE X (.List es pos) (GI t):=by
 intro pins s σ H Q I hq
 refine wpAny_List_spliced (thn (h pos pins s σ H _ I hq) fun us s1 ⟨xs,H1,I1,r,z,q⟩=>⟨by rw[← r.length];exact z,?_⟩)
 have hf:H1 s1.heap.objs.size=none:=I1.hok.fresh (Nat.le_refl _)
 refine⟨.ref s1.heap.objs.size,upd H1 s1.heap.objs.size (.lst xs),I1.laid (t':=s1.toks) (fun b u e=>Heap.get?_push_of_some _ e) (Nat.le_refl _) ?_,rfl,q _ hf⟩
 exact⟨z,us,0,r,Heap.get?_push_size _ rfl⟩
end
abbrev Sp:=List V→Hp→VK→XK→Prop
abbrev CXT:=List Env→Hp→Shared→XK→Value→Shared→Prop
structure xU (P:Program) (w:World) (K:PySem.W.Frag) (mg:Str→Option Value) (base:Heap) (A:Around) (outer:List Env) (s:Shared) (H:Hp):Prop where
 frames:A.frames=some outer
 mod:Mod K mg base
 bs:∀ b o,base.get? b=some o→s.heap.get? b=some o∧H b=none
 bsz:base.objs.size≤s.heap.objs.size
 oz:s.heap.FunFrames base outer
 frf:∀ b∈frs outer,H b=none
 hok:HOk P w H s.heap
 bare:AllBare s.gens
def CE (outer:List Env) (P:Program) (w:World) (H:Hp) (s:Shared) (Q:VK) (u:Value) (s':Shared):Prop:=
 ∃ v H',s'.os=s.os∧AllBare s'.gens∧Un (frs outer) [] H H' s.heap s'.heap∧HOk P w H' s'.heap∧RelV v u∧Q v H'
def CR (CX:CXT) (outer:List Env) (P:Program) (w:World) (H:Hp) (s:Shared) (Q:VK) (E:XK) (r:Result) (s':Shared):Prop:=
 match r with
 | .ok (.ret u)=>CE outer P w H s Q u s'
 | .ok _=>False
 | .error e=>CX outer H s E e s'
structure aY (P:Program) (w:World) (K:PySem.W.Frag) (mg:Str→Option Value) (base:Heap) (CX:CXT) (k:Nat) (f:Addr) (fd:FuncData) (ps:List Str) (sp:Sp):Prop where
 len:∀ vs H Q E,sp vs H Q E→vs.length=ps.length
 run:∀ (A:Around) (outer:List Env) (s:Shared) (H:Hp) (args:Args) (us:List Value) (vs:List V) (Q:VK) (E:XK),dQ k A→xU P w K mg base A outer s H→BindsTo s fd args (ps.zip us)→Vals vs us→sp vs H Q E→
  codeAny (model P w) A (.call (.ref f) args) (CR CX outer P w H s Q E) s
theorem aY.imp {P:Program} {w:World} {K:PySem.W.Frag} {mg:Str→Option Value} {base:Heap} {CX:CXT} {k:Nat} {f:Addr} {fd:FuncData} {ps:List Str} {sp sp':Sp} (F:aY P w K mg base CX k f fd ps sp)
  (h:∀ vs H Q E,sp' vs H Q E→sp vs H Q E):aY P w K mg base CX k f fd ps sp':=
 ⟨fun vs H Q E q=>F.len vs H Q E (h _ _ _ _ q),fun A outer s H args us vs Q E hr he hb hv hs=>F.run A outer s H args us vs Q E hr he hb hv (h _ _ _ _ hs)⟩
theorem xU.make {P:Program} {w:World} {K:PySem.W.Frag} {mg:Str→Option Value} {base:Heap} {A:Around} {outer:List Env} {s:Shared} {H:Hp} (e:xU P w K mg base A outer s H) (C:Addr) (us:List Value) (kw:List (Str×Value)) :
  xU P w K mg base (A.under (.builtin "type.__call__" ⟨.ref C::us,kw⟩)) outer s H:=⟨by first | exact e.frames | (simpa [Around.under,Code.envs,Code.isFrame,pushEnvs] using e.frames),e.mod,e.bs,e.bsz,e.oz,e.frf,e.hok,e.bare⟩
section
variable {X:Cx} {pins:List (Addr×Obj)} {σ:St} {H:Hp} {s s':Shared}
theorem Inv.HI (I:Inv X pins σ H s):xU X.prog X.w X.K X.mg X.base X.A X.stack s H:=
 ⟨I.ok.frames,I.ok.mod,I.bs,Nat.le_trans I.ok.bsz I.sz,I.stack,I.xY,I.hok,I.bare⟩
theorem Inv.after {Q:VK} {u:Value} (I:Inv X pins σ H s) (h:CE X.stack X.prog X.w H s Q u s'):EP X pins σ Q u s':=by
 obtain⟨v,H',os,bare,un,hok,r,q⟩:=h
 obtain⟨hh,g,d,t,os'⟩:=s'
 obtain rfl:os'=s.os:=os
 exact⟨v,H',I.call (h':=hh) (g':=g) (d':=d) (t':=t) (ch:=[]) un hok bare (fun b z=>absurd z (by simp)),r,q⟩
end
def vb (sp:Sp) (dvs:List V) (E:XK) (t:TA):TE:=fun σ H Q=>t σ H fun vs H1=>sp (vs++dvs) H1 Q E
def u_ (C:Addr) (m:Str) (sp:Sp) (dvs:List V) (E:XK) (ta:TE) (t:TA):TE:=fun σ H Q=>ta σ H fun x H1=>∃ a dx fs,x=.ref a∧H1 a=some (.ins C dx fs)∧fs.lookup m=none∧
 t σ H1 fun vs H2=>sp (x::(vs++dvs)) H2 Q E
def zY (C:Addr) (sp:Sp) (dvs:List V) (E:XK) (t:TA):TE:=fun σ H Q=>t σ H fun vs H1=>∀ x dx,H1 x=none→H1 dx=none→dx≠x→
 sp (.ref x::(vs++dvs)) (upd (upd H1 dx (.own x)) x (.ins C dx [])) (fun v H2=>v=.non∧Q (.ref x) H2) E
def Binds (K:PySem.W.Frag) (fd:FuncData) (ps:List Str) (ds:List Value):Prop:=
 ∀ (s:Shared) (us:List Value),K.In s.heap→(us++ds).length=ps.length→BindsTo s fd ⟨us,[]⟩ (ps.zip (us++ds))
theorem Binds.all {K:PySem.W.Frag} {fd:FuncData} {ps:List Str} (h:∀ us:List Value,us.length=ps.length→bindArgs fd ⟨us,[]⟩=pure (ps.zip us)):Binds K fd ps []:=fun s us _ hl=>by
 rw[List.append_nil] at hl ⊢
 exact .of_eq (h us hl)
def Passes (CX:CXT) (X:Cx) (E:XK):Prop:=∀ (pins:List (Addr×Obj)) (σ:St) (H:Hp) (s:Shared) (e:Value) (s':Shared),Inv X pins σ H s→CX X.stack H s E e s'→X.xe e s'
section
variable {X:Cx} {CX:CXT} {k:Nat} {f C:Addr} {fd:FuncData} {ps:List Str} {sp:Sp} {dvs:List V} {ds:List Value} {E:XK} {x m:Str} {p pos apos:Pos} {e o:Expr} {es:List Expr} {ta:TE} {t:TA}
theorem tX {pins:List (Addr×Obj)} {σ:St} {H:Hp} {s:Shared} {Q:VK} {us:List Value} {vs:List V} (F:aY X.prog X.w X.K X.mg X.base CX k f fd ps sp) (hr:dQ k X.A) (hb:Binds X.K fd ps ds) (hd:Vals dvs ds) (hx:Passes CX X E)
  (I:Inv X pins σ H s) (r:Vals vs us) (h:sp (vs++dvs) H Q E):wpAny (model X.prog X.w) X.A (call (.ref f) us) (EP X pins σ Q) X.xe s:=by
 have r2:Vals (vs++dvs) (us++ds):=r.append hd
 have hl:(us++ds).length=ps.length:=by rw[← r2.length];exact F.len _ _ _ _ h
 refine wpAny_call (codeAny_mono (F.run X.A X.stack s H ⟨us,[]⟩ (us++ds) (vs++dvs) Q E hr I.HI (hb s us I.kIn hl) r2 h) fun r s' hq=>?_)
 cases r with
 | error e=>exact hx pins σ H s e s' I hq
 | ok fl=>
  cases fl with
  | ret u=>exact I.after hq
  | next=>exact False.elim hq
  | brk=>exact False.elim hq
  | cont=>exact False.elim hq
theorem CS (F:aY X.prog X.w X.K X.mg X.base CX k f fd ps sp) (hr:dQ k X.A) (hg:Gl X x) (hm:X.mg x=some (.ref f)) (hk:PySem.W.keepIn X.K (.ref f)=true) (hb:Binds X.K fd ps ds) (hd:Vals dvs ds) (hx:Passes CX X E)
  (ha:PA X (e::es) t) (hdb:(x == ("__debug__":Str))=false:=by decide) (he:starEach (e::es) X.env=(false,eval e X.env)::starEach es X.env:=by rfl) (hpl:(backTo pos (starEach es X.env)).any (·.1)=false:=by rfl) :
  PE X (.Call (.Name x p) (e::es) [] pos) (vb sp dvs E t):=by
 intro pins s σ H Q I h
 refine wpAny_Call_Name_kw (nC I hg hm ?_ hdb)
 refine PySem.W.callWith_K (h₀:=X.base) I.ok.mod.kin hk (thn (ha pos pins s σ H _ I h) fun us s1 ⟨vs,H1,I1,r,q⟩=>⟨I1.kIn,?_⟩) he hpl
 exact tX F hr hb hd hx I1 r q
theorem AE (F:aY X.prog X.w X.K X.mg X.base CX k f fd ps sp) (hr:dQ k X.A) (hg:Gl X x) (hm:X.mg x=some (.ref f)) (hk:PySem.W.keepIn X.K (.ref f)=true) (hb:Binds X.K fd ps ds) (hd:Vals dvs ds) (hx:Passes CX X E)
  (hdb:(x == ("__debug__":Str))=false:=by decide):PE X (.Call (.Name x p) [] [] pos) (vb sp dvs E mM):=by
 intro pins s σ H Q I h
 refine wpAny_Call_Name_kw (nC I hg hm ?_ hdb)
 exact PySem.W.callWith_K0 I.kIn hk (tX (us:=[]) F hr hb hd hx I .nil h)
theorem CN {pl:Sem Bool} (he:PE X o ta) (c:Cls X.K C) (hm:Meth X.K C m f) (F:aY X.prog X.w X.K X.mg X.base CX k f fd ps sp) (hr:dQ k X.A) (hb:Binds X.K fd ps ds) (hd:Vals dvs ds) (hx:Passes CX X E) (ha:PA X (e::es) t)
  (hst:starEach (e::es) X.env=(false,eval e X.env)::starEach es X.env:=by rfl) (hpl:(backTo pos (starEach es X.env)).any (·.1)=false:=by rfl)
  (ht:eval (.Call (.Attribute o m apos) (e::es) [] pos) X.env=(do
   let ov ← eval o X.env
   standAt apos.atName
   let (f,first) ← holding [ov] (getMethod ov m pl)
   callWith pos f first (backTo pos (starEach (e::es) X.env)) (backToKw pos (keywordEach [] X.env))):=by rfl) :
  PE X (.Call (.Attribute o m apos) (e::es) [] pos) (u_ C m sp dvs E ta t):=by
 intro pins s σ H Q I h
 refine PySem.W.methodCall_KW (pl:=pl) (thn (he pins s σ H _ I h) fun u s1 ⟨x,H1,I1,rx,a,dx,fs,ex,ea,l,q⟩=>?_) ht
 subst ex
 obtain rfl:u=Value.ref a:=rx
 refine mi I1 ea c hm l ?_
 refine PySem.W.callWith_K (first:=[.ref a]) (h₀:=X.base) I.ok.mod.kin hm.kp (thn (ha pos pins s1 σ H1 _ I1 q) fun us s2 ⟨vs,H2,I2,r,q2⟩=>⟨I2.kIn,?_⟩) hst hpl
 exact tX (us:=.ref a::us) (vs:=.ref a::vs) F hr hb hd hx I2 (.cons rfl r) q2
theorem Az {pl:Sem Bool} (he:PE X o ta) (c:Cls X.K C) (hm:Meth X.K C m f) (F:aY X.prog X.w X.K X.mg X.base CX k f fd ps sp) (hr:dQ k X.A) (hb:Binds X.K fd ps ds) (hd:Vals dvs ds) (hx:Passes CX X E)
  (ht:eval (.Call (.Attribute o m apos) [] [] pos) X.env=(do
   let ov ← eval o X.env
   standAt apos.atName
   let (f,first) ← holding [ov] (getMethod ov m pl)
   callWith pos f first (backTo pos (starEach [] X.env)) (backToKw pos (keywordEach [] X.env))):=by rfl) :
  PE X (.Call (.Attribute o m apos) [] [] pos) (u_ C m sp dvs E ta mM):=by
 intro pins s σ H Q I h
 refine PySem.W.methodCall_KW (pl:=pl) (thn (he pins s σ H _ I h) fun u s1 ⟨x,H1,I1,rx,a,dx,fs,ex,ea,l,q⟩=>?_) ht
 subst ex
 obtain rfl:u=Value.ref a:=rx
 refine mi I1 ea c hm l ?_
 exact PySem.W.callWith_K0 (first:=[.ref a]) I1.kIn hm.kp (tX (us:=[.ref a]) (vs:=[.ref a]) F hr hb hd hx I1 (.cons rfl .nil) q)
structure Mk (K:PySem.W.Frag) (C f:Addr):Prop where
 makes:PySem.W.makesIn K C=true
 init:PySem.W.findIn K (.ref C) "__init__"=some (some (.ref f))
 fn:PySem.W.isFn K (.ref f)=true
 kp:PySem.W.keepIn K (.ref C)=true
theorem Ac {pins:List (Addr×Obj)} {σ:St} {H:Hp} {s:Shared} {Q:VK} {us:List Value} {vs:List V} (M:Mk X.K C f) (F:aY X.prog X.w X.K X.mg X.base CX k f fd ps sp) (hr:dQ (k + 1) X.A) (hb:Binds X.K fd ps ds) (hd:Vals dvs ds)
  (hx:Passes CX X E) (I:Inv X pins σ H s) (r:Vals vs us)
  (h:∀ x dx,H x=none→H dx=none→dx≠x→sp (.ref x::(vs++dvs)) (upd (upd H dx (.own x)) x (.ins C dx [])) (fun v H2=>v=.non∧Q (.ref x) H2) E) :
  wpAny (model X.prog X.w) X.A (call (.ref C) us) (EP X pins σ Q) X.xe s:=by
 have hq:=h (s.heap.objs.size + 1) s.heap.objs.size (I.hok.fresh (Nat.le_succ _)) (I.hok.fresh (Nat.le_refl _)) (Nat.ne_of_lt (Nat.lt_succ_self _))
 have I2:=Inv.made (C:=C) I
 have r2:Vals (V.ref (s.heap.objs.size + 1)::(vs++dvs)) (Value.ref (s.heap.objs.size + 1)::(us++ds)):=.cons rfl (r.append hd)
 have hl:(Value.ref (s.heap.objs.size + 1)::us++ds).length=ps.length:=by
  have e:=r2.length
  rw[F.len _ _ _ _ hq] at e
  exact e.symm
 refine wpAny_call (AZ (f:=f) I.kIn M.makes M.init (beq_iff_eq.mp M.fn) (codeAny_mono (F.run _ X.stack _ _ ⟨Value.ref (s.heap.objs.size + 1)::us,[]⟩ (Value.ref (s.heap.objs.size + 1)::(us++ds)) _ _ E (hr.make C us [])
  (I2.HI.make C us []) (hb _ (Value.ref (s.heap.objs.size + 1)::us) I2.kIn hl) r2 hq) fun r s' hq'=>?_))
 cases r with
 | error e=>exact hx pins σ _ _ e s' I2 hq'
 | ok fl=>
  cases fl with
  | ret u=>
   obtain⟨v,H',I3,rv,ev,q3⟩:=I2.after hq'
   subst ev
   exact⟨rv,⟨V.ref (s.heap.objs.size + 1),H',I3,rfl,q3⟩⟩
  | next=>exact False.elim hq'
  | brk=>exact False.elim hq'
  | cont=>exact False.elim hq'
theorem CO (M:Mk X.K C f) (F:aY X.prog X.w X.K X.mg X.base CX k f fd ps sp) (hr:dQ (k + 1) X.A) (hg:Gl X x) (hm:X.mg x=some (.ref C)) (hb:Binds X.K fd ps ds) (hd:Vals dvs ds) (hx:Passes CX X E)
  (ha:PA X (e::es) t) (hdb:(x == ("__debug__":Str))=false:=by decide) (he:starEach (e::es) X.env=(false,eval e X.env)::starEach es X.env:=by rfl) (hpl:(backTo pos (starEach es X.env)).any (·.1)=false:=by rfl) :
  PE X (.Call (.Name x p) (e::es) [] pos) (zY C sp dvs E t):=by
 intro pins s σ H Q I h
 refine wpAny_Call_Name_kw (nC I hg hm ?_ hdb)
 refine PySem.W.callWith_K (h₀:=X.base) I.ok.mod.kin M.kp (thn (ha pos pins s σ H _ I h) fun us s1 ⟨vs,H1,I1,r,q⟩=>⟨I1.kIn,?_⟩) he hpl
 exact Ac M F hr hb hd hx I1 r q
end
def PK (X:Cx) (kws:List Keyword) (t:TA):Prop:=
 ∀ (pos:Pos) (pins:List (Addr×Obj)) (s:Shared) (σ:St) (H:Hp) (Q:List V→Hp→Prop),Inv X pins σ H s→t σ H Q→wpAny (model X.prog X.w) X.A (evalAll ((backToKw pos (keywordEach kws X.env)).map (·.2))) (AP X pins σ Q) X.xe s
section
variable {X:Cx} {CX:CXT} {k:Nat} {f C:Addr} {fd:FuncData} {ps ks:List Str} {sp:Sp} {E:XK} {x m:Str} {p pos apos kpos:Pos} {e o:Expr} {es:List Expr} {kws:List Keyword} {te ta:TE} {t tk:TA} {nm:Option Str}
structure Jn (K:PySem.W.Frag) (fd:FuncData) (ps ks:List Str) (g:List Value→List Value→List Value) (gV:List V→List V→List V):Prop where
 to:∀ (s:Shared) (us ws:List Value),K.In s.heap→(g us ws).length=ps.length→BindsTo s fd ⟨us,ks.zip ws⟩ (ps.zip (g us ws))
 rel:∀ {vs:List V} {us:List Value} {zs:List V} {ws:List Value},Vals vs us→Vals zs ws→Vals (gV vs zs) (g us ws)
def IG (sp:Sp) (gV:List V→List V→List V) (E:XK) (t tk:TA):TE:=fun σ H Q=>t σ H fun vs H1=>tk σ H1 fun zs H2=>sp (gV vs zs) H2 Q E
variable {g:List Value→List Value→List Value} {gV:List V→List V→List V}
end
structure aw (N P:List Str) (sc:Scope):Prop where
 kind:sc.kind=.function
 co:sc.isCoroutine=false
 gen:sc.isGenerator=false
 nd:N.Nodup
 pre:N.take P.length=P
 par:∀ x∈P,sc.names.lookup x=some .local∨sc.names.lookup x=some .cell
 nofree:∀ y∈sc.names,y.2≠.free
theorem sT {kindOf:Str→Option NameKind} {x:Str}:∀ {binds:List (Str×Value)} {m:Str→Option Value},(∀ v,(x,v)∉binds)→bindL kindOf binds m x=m x
 | [],_,_=>rfl
 | (n,v)::r,m,h=>by
  unfold bindL
  rw[sT fun w hw=>h w (List.mem_cons_of_mem _ hw)]
  split
  ·have:x≠n:=by rintro rfl;exact h v List.mem_cons_self
   simp [this]
  ·rfl
theorem sV {kindOf:Str→Option NameKind} {x:Str}:∀ {binds:List (Str×Value)} {m:Str→Option Value},(∀ v,(x,v)∉binds)→bindC kindOf binds m x=m x
 | [],_,_=>rfl
 | (n,v)::r,m,h=>by
  unfold bindC
  rw[sV fun w hw=>h w (List.mem_cons_of_mem _ hw)]
  split
  ·rfl
  ·have:x≠n:=by rintro rfl;exact h v List.mem_cons_self
   simp [this]
theorem sU {kindOf:Str→Option NameKind} {x:Str} {v:Value}:∀ {P:List Str} {vs:List Value} {i:Nat} {m:Str→Option Value},P.Nodup→P[i]?=some x→vs[i]?=some v→kindOf x=some .local→
  bindL kindOf (P.zip vs) m x=some v
 | [],_,_,_,_,h,_,_=>by simp at h
 | _::_,[],_,_,_,_,h,_=>by simp at h
 | p::P,w::vs,0,m,nd,h1,h2,hk=>by
  simp at h1 h2;subst h1;subst h2
  show bindL kindOf ((p,w)::P.zip vs) m p=_
  unfold bindL
  rw[sT fun v hv=>(List.nodup_cons.mp nd).1 (List.of_mem_zip hv).1,if_pos hk]
  simp
 | p::P,w::vs,i + 1,m,nd,h1,h2,hk=>by
  show bindL kindOf ((p,w)::P.zip vs) m x=_
  unfold bindL
  exact sU (i:=i) (List.nodup_cons.mp nd).2 (by simpa using h1) (by simpa using h2) hk
theorem sW {kindOf:Str→Option NameKind} {x:Str} {v:Value}:∀ {P:List Str} {vs:List Value} {i:Nat} {m:Str→Option Value},P.Nodup→P[i]?=some x→vs[i]?=some v→kindOf x≠some .local→
  bindC kindOf (P.zip vs) m x=some v
 | [],_,_,_,_,h,_,_=>by simp at h
 | _::_,[],_,_,_,_,h,_=>by simp at h
 | p::P,w::vs,0,m,nd,h1,h2,hk=>by
  simp at h1 h2;subst h1;subst h2
  show bindC kindOf ((p,w)::P.zip vs) m p=_
  unfold bindC
  rw[sV fun v hv=>(List.nodup_cons.mp nd).1 (List.of_mem_zip hv).1,if_neg hk]
  simp
 | p::P,w::vs,i + 1,m,nd,h1,h2,hk=>by
  show bindC kindOf ((p,w)::P.zip vs) m x=_
  unfold bindC
  exact sW (i:=i) (List.nodup_cons.mp nd).2 (by simpa using h1) (by simpa using h2) hk
def start (N:List Str) (vs:List V):St:=vs.map some++List.replicate (N.length - vs.length) none
def vW (CX:CXT) (P:Program) (w:World) (K:PySem.W.Frag) (mg:Str→Option Value) (base:Heap) (N:List Str) (qual:Str) (scope:Scope) (f:Addr) (cd:Value) (A:Around) (outer:List Env) (s:Shared) (H:Hp) (E:XK):Cx where
 prog:=P
 w:=w
 K:=K
 mg:=mg
 base:=base
 A:=A.deeper (envOfC qual scope s.heap.objs.size f cd)
 N:=N
 s₀:=s
 H₀:=H
 env:=envOfC qual scope s.heap.objs.size f cd
 outer:=outer
 stack:=envOfC qual scope s.heap.objs.size f cd::outer
 ex:=[]
 calm:=true
 fn:=fun _=>true
 pn:=[]
 xe:=fun e s'=>wpAny (model P w) (A.deeper (envOfC qual scope s.heap.objs.size f cd)) (leaving (envOfC qual scope s.heap.objs.size f cd) e) (fun _ s''=>CX outer H s E e s'') (fun e' s''=>CX outer H s E e' s'') s'
theorem v7 {sc:Scope} {n:Nat} {x:Str} (h:sc.names.lookup x=some .cell):∃ c,(cellsFrom n sc.names []).lookup x=some c:=by
 have q:=PySem.W.cellsFrom_some sc.names n [] (.inl h)
 exact Option.isSome_iff_exists.mp q
theorem zv {CX:CXT} {P:Program} {w:World} {K:PySem.W.Frag} {mg:Str→Option Value} {base:Heap} {N ps:List Str} {qual:Str} {scope:Scope} {f:Addr} {cd:Value} {A:Around} {outer:List Env} {s s1:Shared} {H:Hp} {E:XK} {us:List Value} {vs:List V}
  (S:aw N ps scope) (hd:A.handled=none) (e0:xU P w K mg base A outer s H) (hl:vs.length=ps.length) (r:Vals vs us)
  (x:InCallC s s.heap.objs.size (bindL (envOfC qual scope s.heap.objs.size f cd).kindOf (ps.zip us) fun _=>none) (cellsFrom (s.heap.objs.size + 1) scope.names []) (bindC (envOfC qual scope s.heap.objs.size f cd).kindOf (ps.zip us) fun _=>none) s1) :
  Inv (vW CX P w K mg base N qual scope f cd A outer s H E) [] (start N vs) H s1:=by
 have hpl:ps.length≤N.length:=by have:=congrArg List.length S.pre;rw[List.length_take] at this;omega
 obtain⟨h1,tk,rfl,hk⟩:=x.done
 have noA:∀ b:Addr,b∉(vW CX P w K mg base N qual scope f cd A outer s H E).ex:=fun b z=>absurd (show b∈([]:List Addr) from z) (by simp)
 refine⟨⟨e0.mod,S.kind,rfl,rfl,Nat.le_refl _,fun y z c h1 h2=>?_,fun y hy=>?_,fun y c _ h=>?_,fun _=>hd,Around.frames_deeper e0.frames,.inr ⟨rfl,rfl⟩,fun b z=>absurd z (noA b),e0.bs,e0.bsz,fun b _ _=>noA b,fun b z=>absurd z (noA b),e0.oz,e0.frf⟩,
  rfl,e0.bare,Un.kept hk,⟨_,x.toInCall.ns,fun i y v h1 h2 h3=>?_⟩,fun y c h=>⟨_,x.cell y c h⟩,e0.hok.fresh (Nat.le_refl _),fun y c h=>?_,fun p hp=>absurd (show p∈([]:List (Addr×Obj)) from hp) (by simp),e0.hok.kept hk,?_⟩
 ·exact name_of_addr x.apart (PySem.mem_of_lookup h1) (PySem.mem_of_lookup h2)
 ·have hy:scope.names.lookup y=some .cell∨scope.names.lookup y=some .free:=hy
  rcases hy with hy | hy
  ·exact v7 hy
  ·exact absurd rfl (S.nofree _ (PySem.mem_of_lookup hy))
 ·exact Nat.le_of_lt (x.above y c (PySem.mem_of_lookup h))
 ·have hi:i < vs.length:=by
   unfold start at h2
   by_cases hi:i < vs.length
   ·exact hi
   ·rw[List.getElem?_append_right (by simpa using hi)] at h2
    rw[List.getElem?_replicate] at h2
    split at h2 <;> cases h2
  have ha:vs[i]?=some v:=by
   unfold start at h2
   rw[List.getElem?_append_left (by simpa using hi),List.getElem?_map] at h2
   cases e:vs[i]? with
   | none=>rw[e] at h2;cases h2
   | some a=>rw[e] at h2;cases h2;rfl
  obtain⟨u,hu,rv⟩:=r.get ha
  have hp:ps[i]?=some y:=by
   rw[← S.pre,List.getElem?_take_of_lt (by omega)];exact h1
  have ndP:ps.Nodup:=by rw[← S.pre];exact S.nd.sublist (List.take_sublist _ _)
  refine⟨u,rv,?_⟩
  rcases S.par y (List.mem_of_getElem? hp) with k | k
  ·exact .inl ⟨k,sU ndP hp hu k⟩
  ·obtain⟨c,e⟩:=v7 (n:=s.heap.objs.size + 1) k
   refine .inr ⟨.inl k,c,e,?_⟩
   have q:=x.cell y c e
   rw[sW ndP hp hu (by show scope.names.lookup y≠_;rw[k];decide)] at q
   exact q
 ·exact e0.hok.fresh (Nat.le_of_lt (x.above y c (PySem.mem_of_lookup h)))
 ·unfold start
  show _=N.length
  rw[List.length_append,List.length_map,List.length_replicate]
  omega
theorem HH {CX:CXT} {P:Program} {w:World} {K:PySem.W.Frag} {mg:Str→Option Value} {base:Heap} {k:Nat} {f:Addr} {name qual:Str} {params:Arguments} {body:List Stmt} {scope:Scope} {dV kV doc pm cdv ct oc:Value} {an od:Option Addr}
  {osl:Array (Option Value)} {N ps:List Str} {sp:Sp} (lk:K.lookup f=some ⟨oc,od,.func (PySem.W.fnOf name qual params body scope dV kV doc pm an cdv ct),osl⟩) (hcd:PySem.W.codeIn K cdv qual=true) (S:aw N ps scope)
  (len:∀ vs H Q E,sp vs H Q E→vs.length=ps.length)
  (hbody:∀ (A:Around) (outer:List Env) (s:Shared) (H:Hp) (vs:List V) (Q:VK) (E:XK),dQ k (A.deeper (envOfC qual scope s.heap.objs.size f cdv))→sp vs H Q E→
   ∃ t,PSs (vW CX P w K mg base N qual scope f cdv A outer s H E) body t∧t { nx:=fun _ H'=>Q .non H',rt:=Q } (start N vs) H) :
  aY P w K mg base CX (k + 1) f (PySem.W.fnOf name qual params body scope dV kV doc pm an cdv ct) ps sp:=by
 refine⟨len,fun A outer s H args us vs Q E hr e0 hb r hsp=>?_⟩
 have hl:=len _ _ _ _ hsp
 have KX:K.In s.heap:=e0.mod.kin.keeps fun b o e=>(e0.bs b o e).1
 have lim:s.heap.NoLimit:=e0.mod.nolimit.keeps fun b o e=>(e0.bs b o e).1
 have hkind:∀ y∈ps.zip us,scope.names.lookup y.1=some .local∨(scope.names.lookup y.1=some .cell∧((cellsFrom (s.heap.objs.size + 1) scope.names []).lookup y.1).isSome=true):=fun ⟨n,v⟩ hy=>by
  rcases S.par n (List.of_mem_zip hy).1 with q | q
  ·exact .inl q
  ·exact .inr ⟨q,PySem.W.cellsFrom_some _ _ _ (.inl q)⟩
 refine codeAny_call_function hr.depth (KX _ _ lk) rfl S.co S.gen rfl (PySem.W.codeRec_of KX hcd) (hb _ _ _ _ ?_)
 refine wpAny_newFunctionEnv_cells S.kind hkind fun env he s1 x=>?_
 subst he
 refine⟨lim.keeps x.toInCall.keep,codeAny_func ?_⟩
 obtain⟨t,ht,hq⟩:=hbody A outer s H vs Q E (hr.deeper _) hsp
 have I:Inv (vW CX P w K mg base N qual scope f cdv A outer s H E) [] (start N vs) H s1:=zv S hr.hd e0 hl r x
 refine wpAny_mono (ht [] s1 (start N vs) H _ I hq) (fun fl s' hs=>?_) fun e s' hs=>hs
 have fin:∀ {σ':St} {H':Hp} {v:V} {u:Value},Inv (vW CX P w K mg base N qual scope f cdv A outer s H E) [] σ' H' s'→RelV v u→Q v H'→CE outer P w H s Q u s':=
  fun {σ' H' v u} J rv q=>⟨v,H',J.os,J.bare,J.base,J.hok,rv,q⟩
 cases fl with
 | ret u=>
  obtain⟨v,σ',H',J,rv,q⟩:=hs
  exact fin J rv q
 | next=>
  obtain⟨σ',H',J,q⟩:=hs
  exact fin (v:=V.non) (u:=Value.none) J rfl q
 | brk=>
  obtain⟨_,_,_,q⟩:=hs
  exact False.elim q
 | cont=>
  obtain⟨_,_,_,q⟩:=hs
  exact False.elim q
end L2
namespace L2
open PySem PySem.Spec PyProof.Rows
section
variable {X:Cx} {x:Str} {p pos:Pos} {e:Expr} {es:List Expr} {t:TA} {id T:String} {r:List V→Hp→VK→Prop}
def tCB (r:List V→Hp→VK→Prop) (t:TA):TE:=fun σ H Q=>t σ H fun vs H1=>r vs H1 Q
theorem AD (hc:ek X (.builtin id) r) (hg:Gl X x) (hm:X.mg x=none) (hv:bootBuiltins x=some (.builtin id)) (ha:PA X (e::es) t) (hn:x≠"__name__":=by decide) (hdb:(x == ("__debug__":Str))=false:=by decide)
  (he:starEach (e::es) X.env=(false,eval e X.env)::starEach es X.env:=by rfl) (hpl:(backTo pos (starEach es X.env)).any (·.1)=false:=by rfl):PE X (.Call (.Name x p) (e::es) [] pos) (tCB r t):=by
 intro pins s σ H Q I h
 refine wpAny_Call_Name_kw (kq I hg hm hv ?_ hn hdb)
 exact PyProof.Rows.callWith_builtin1 (thn (ha pos pins s σ H _ I h) fun us s1 ⟨vs,H1,I1,r1,q1⟩=>hc pins s1 σ H1 vs us Q I1 r1 q1) he hpl
theorem zb (hc:ek X (.type T) r) (hg:Gl X x) (hm:X.mg x=none) (hv:bootBuiltins x=some (.type T)) (ha:PA X (e::es) t) (hn:x≠"__name__":=by decide) (hdb:(x == ("__debug__":Str))=false:=by decide)
  (he:starEach (e::es) X.env=(false,eval e X.env)::starEach es X.env:=by rfl) (hpl:(backTo pos (starEach es X.env)).any (·.1)=false:=by rfl):PE X (.Call (.Name x p) (e::es) [] pos) (tCB r t):=by
 intro pins s σ H Q I h
 refine wpAny_Call_Name_kw (kq I hg hm hv ?_ hn hdb)
 exact PyProof.Rows.callWith_type1 (thn (ha pos pins s σ H _ I h) fun us s1 ⟨vs,H1,I1,r1,q1⟩=>hc pins s1 σ H1 vs us Q I1 r1 q1) he hpl
end
end L2
namespace HT
open PySem PyProof.Rows
def lexLt:List Int→List Int→Bool
 | [],[]=>false
 | [],_::_=>true
 | _::_,[]=>false
 | x::xs,y::ys=>if x=y then lexLt xs ys else decide (x < y)
section
open PySem.SeqAt
open PySem.AutoSeq1 (wpAny_loadPart')
open PySem.MeetsSeq PySem.MeetsSeq2 PySem.MeetsSeq3
end
section
variable {prog:Program} {w:World} {A:Around} {E:Value→Shared→Prop} {s:Shared}
def sIx (n d:Nat):Option Int→Nat
 | none=>d
 | some v=>if v < 0 then (v + (n:Int)).toNat else min v.toNat n
end
end HT
namespace L2
open PySem PySem.Spec PyProof.Rows
abbrev TO:=St→Hp→(Option Int→Hp→Prop)→Prop
def PO (X:Cx) (e:Option Expr) (t:TO):Prop:=
 ∀ (pins:List (Addr×Obj)) (s:Shared) (σ:St) (H:Hp) (Q:Option Int→Hp→Prop),Inv X pins σ H s→t σ H Q→
  wpAny (model X.prog X.w) X.A (evalPart e X.env) (fun u s'=>∃ o H',Inv X pins σ H' s'∧IsPart u o∧Q o H') X.xe s
def xW:TO:=fun _ H Q=>Q none H
def DV (t:TE):TO:=fun σ H Q=>t σ H fun x H1=>∃ i,x=.int i∧Q (some i) H1
section
variable {X:Cx} {e:Expr} {te:TE} {lo hi:Option Expr} {tl th:TO} {pos p2:Pos}
theorem CK:PO X none xW:=by
 intro pins s σ H Q I h
 rw[evalPart_none]
 exact wpAny_pure ⟨none,H,I,.none,h⟩
theorem CJ (h:PE X e te):PO X (some e) (DV te):=by
 intro pins s σ H Q I hw
 rw[evalPart_some]
 refine thn (h pins s σ H _ I hw) fun u s1 ⟨x,H1,I1,r1,q1⟩=>?_
 obtain⟨i,rfl,q⟩:=q1
 obtain⟨t,rfl⟩:=r1
 exact⟨some i,H1,I1,.int i t,q⟩
def SlR (X:Cx) (r:V→Option Int→Option Int→Hp→VK→Prop):Prop:=
 ∀ (pins:List (Addr×Obj)) (s:Shared) (σ:St) (H:Hp) (x:V) (v vl vu:Value) (lo hi:Option Int) (sl:Addr) (Q:VK),Inv X pins σ H s→RelV x v→s.heap.IsSliceOf sl vl vu .none→IsPart vl lo→IsPart vu hi→r x lo hi H Q→
  ∃ T id,typeLookup (.type T) "__getitem__"=pure (some (.builtin id))∧s.TypeIs v T∧wpAny (model X.prog X.w) X.A (getItem v (.ref sl)) (EP X pins σ Q) X.xe s
def tSl (r:V→Option Int→Option Int→Hp→VK→Prop) (te:TE) (tl th:TO):TE:=fun σ H Q=>te σ H fun x H1=>tl σ H1 fun l H2=>th σ H2 fun u H3=>r x l u H3 Q
theorem Ay {r:V→Option Int→Option Int→Hp→VK→Prop} (hr:SlR X r) (he:PE X e te) (hl:PO X lo tl) (hu:PO X hi th):PE X (.Subscript e (.Slice lo hi none p2) pos) (tSl r te tl th):=by
 intro pins s σ H Q I h
 refine Subscript_ (thn (he pins s σ H _ I h) fun v s1 ⟨x,H1,I1,r1,q1⟩=>?_)
 refine wpAny_Slice (thn (hl pins s1 σ H1 _ I1 q1) fun vl s2 ⟨l,H2,I2,pl,q2⟩=>thn (hu pins s2 σ H2 _ I2 q2) fun vu s3 ⟨u,H3,I3,pu,q3⟩=>?_)
 rw[evalPart_none]
 refine wpAny_pure ?_
 have I4:Inv X pins σ H3 { s3 with heap:=s3.heap.push { cls:=.type "slice",data:=.fields #[vl,vu,.none] } }:=I3.kept (t':=s3.toks) fun b ob q=>Heap.get?_push_of_some _ q
 obtain⟨T,id,hT,ht,hg⟩:=hr pins { s3 with heap:=s3.heap.push { cls:=.type "slice",data:=.fields #[vl,vu,.none] } } σ H3 x v vl vu l u s3.heap.objs.size Q I4 r1 (Heap.IsSliceOf.new ..) pl pu q3
 show wpAny (model X.prog X.w) X.A (subscriptTail e (.Slice lo hi none p2) v (.ref s3.heap.objs.size)) (EP X pins σ Q) X.xe { s3 with heap:=s3.heap.push { cls:=.type "slice",data:=.fields #[vl,vu,.none] } }
 exact tail_any (ops:=[.ref s3.heap.objs.size,v]) ht hT hg (by with_unfolding_all rfl)
def xN (xs:List V) (lo hi:Option Int):List V:=(xs.drop (HT.sIx xs.length 0 lo)).take (HT.sIx xs.length xs.length hi - HT.sIx xs.length 0 lo)
theorem vY (xs:List V) (lo hi:Option Int):(xN xs lo hi).length≤xs.length:=by
 unfold xN
 rw[List.length_take,List.length_drop]
 omega
def JV (K:PySem.W.Frag):V→Option Int→Option Int→Hp→VK→Prop:=fun x lo hi H Q=>∃ a xs,x=.ref a∧SqT K H a xs∧
 ¬ (HT.sIx xs.length 0 lo=0∧HT.sIx xs.length xs.length hi=xs.length)∧∀ p,H p=none→Q (.ref p) (upd H p (.tup (xN xs lo hi)))
def JY (K:PySem.W.Frag):R2:=fun x y H Q=>∃ a b ns ms,x=.ref a∧y=.ref b∧SqT K H a (ns.map V.int)∧SqT K H b (ms.map V.int)∧Q (.bl (HT.lexLt ns ms)) H
def JD (K:PySem.W.Frag):R2:=fun x y H Q=>∃ a b xs ys,x=.ref a∧y=.ref b∧SqT K H a xs∧SqT K H b ys∧xs≠[]∧xs.length + ys.length≤sizeLine∧
 (ys=[]→Q (.ref a) H)∧(ys≠[]→∀ p,H p=none→Q (.ref p) (upd H p (.tup (xs++ys))))
end
end L2
namespace L2
open PySem PySem.Spec PyProof.Rows
def ixN (n:Nat) (i:Int):Option Nat:=if 0≤i then (if i < n then some i.toNat else none) else if -(n:Int)≤i then some (i + n).toNat else none
def atI {α:Type} (xs:List α) (i:Int):Option α:=(ixN xs.length i).bind fun j=>xs[j]?
theorem yl {n:Nat} {i:Int} {j:Nat} (h:ixN n i=some j):seqIndex? i n=some j∧j < n∧-(n:Int)≤i∧i < n:=by
 unfold ixN at h
 by_cases h0:0≤i
 ·rw[if_pos h0] at h
  by_cases h1:i < n
  ·rw[if_pos h1] at h
   have e:i.toNat=j:=Option.some.inj h
   exact⟨by rw[seqIndex_of h0 h1,e],by omega,by omega,h1⟩
  ·rw[if_neg h1] at h;cases h
 ·rw[if_neg h0] at h
  by_cases h1:-(n:Int)≤i
  ·rw[if_pos h1] at h
   have e:(i + n).toNat=j:=Option.some.inj h
   exact⟨by rw[seqIndex_neg (by omega) h1,e],by omega,h1,by omega⟩
  ·rw[if_neg h1] at h;cases h
theorem uT {α:Type} {xs:List α} {i:Int} {v:α} (h:atI xs i=some v):∃ j,seqIndex? i xs.length=some j∧xs[j]?=some v∧j < xs.length∧-(xs.length:Int)≤i∧i < xs.length:=by
 unfold atI at h
 cases e:ixN xs.length i with
 | none=>rw[e] at h;cases h
 | some j=>
  rw[e] at h
  obtain⟨h1,h2,h3,h4⟩:=yl e
  exact⟨j,h1,h,h2,h3,h4⟩
theorem DI {α:Type} {xs:List α} {j:Nat} {v:α} (h:xs[j]?=some v):atI xs (j:Int)=some v:=by
 have hj:j < xs.length:=(List.getElem?_eq_some_iff.mp h).1
 have e:ixN xs.length (j:Int)=some j:=by
  unfold ixN
  rw[if_pos (by omega),if_pos (by omega)];simp
 unfold atI;rw[e];exact h
theorem hX {α:Type} (xs:List α) (v:α):atI (xs++[v]) (-1)=some v:=by
 have hl:(xs++[v]).length=xs.length + 1:=by simp
 have e:ixN (xs++[v]).length (-1)=some xs.length:=by
  unfold ixN
  rw[hl,if_neg (by decide),if_pos (by omega)]
  congr 1
  omega
 unfold atI
 rw[e]
 show (xs++[v])[xs.length]?=some v
 simp
def yN (b:Expr):Prop:=∀ o i,subscripted b false o i=operate [o,i] (getItem o i)
def IxR (X:Cx) (r:R2):Prop:=
 ∀ (value slice:Expr) (pins:List (Addr×Obj)) (s:Shared) (σ:St) (H:Hp) (x y:V) (v u:Value) (Q:VK),Inv X pins σ H s→RelV x v→RelV y u→r x y H Q→
  subscripted slice false v u=operate [v,u] (getItem v u)→wpAny (model X.prog X.w) X.A (subscriptTail value slice v u) (EP X pins σ Q) X.xe s
def MtR (X:Cx) (id:String) (r:V→List V→Hp→VK→Prop):Prop:=
 ∀ (pins:List (Addr×Obj)) (s:Shared) (σ:St) (H:Hp) (x:V) (xs:List V) (v:Value) (us:List Value) (Q:VK),Inv X pins σ H s→RelV x v→Vals xs us→r x xs H Q→
  wpAny (model X.prog X.w) X.A (call (.builtin id) (v::us)) (EP X pins σ Q) X.xe s
section
variable {X:Cx} {a b:Expr} {ta tb:TE} {pos:Pos}
theorem IxR.or {r r':R2} (h:IxR X r) (h':IxR X r'):IxR X (fun x y H Q=>r x y H Q∨r' x y H Q):=by
 intro value slice pins s σ H x y v u Q I rx ry q hs
 rcases q with q | q
 ·exact h value slice pins s σ H x y v u Q I rx ry q hs
 ·exact h' value slice pins s σ H x y v u Q I rx ry q hs
theorem G9 {r:R2} (hr:IxR X r) (ha:PE X a ta) (hb:PE X b tb) (hs:yN b):PE X (.Subscript a b pos) (tOp r ta tb):=by
 intro pins s σ H Q I h
 exact Subscript_ (Gj ha hb I h fun v u s2 x y H2 I2 rx ry q=>hr a b pins s2 σ H2 x y v u Q I2 rx ry q (hs _ _))
def G1 (K:PySem.W.Frag):R2:=fun x y H Q=>∃ p xs i v,x=.ref p∧y=.int i∧SqL K H p xs∧atI xs i=some v∧Q v H
def GZ (K:PySem.W.Frag):R2:=fun x y H Q=>∃ p xs i v,x=.ref p∧y=.int i∧SqT K H p xs∧atI xs i=some v∧Q v H
def G0:R2:=fun x y H Q=>∃ z i c,x=.str z∧y=.int i∧z.length≤sizeLine∧atI z.cps.toList i=some c∧Q (.str ⟨#[c]⟩) H
theorem Dp:IxR X (G1 X.K):=by
 intro value slice pins s σ H x y v u Q I rx ry h hs
 obtain⟨p,xs,i,z,rfl,rfl,hq,he,q⟩:=h
 cases rx
 obtain⟨t,rfl⟩:=ry
 obtain⟨its,r,pl,hz⟩:=I.list hq
 obtain⟨j,h1,h2,h3,h4,h5⟩:=uT he
 obtain⟨w,ew,rw'⟩:=r.get h2
 have hl:=r.length
 have hn:=ou
 have fin:EP X pins σ Q w s:=⟨z,H,I,rw',q⟩
 by_cases h0:0≤i
 ·have hj:i.toNat=j:=by
   rw[seqIndex_of h0 h5] at h1
   exact Option.some.inj h1
  exact item_listR pl.isList h0 (by omega) (by rw[hj];simpa using ew) fin hs
 ·have hj:(i + (its.toArray.size:Int)).toNat=j:=by
   rw[seqIndex_neg (by omega) h4] at h1
   rw[List.size_toArray,← hl]
   exact Option.some.inj h1
  exact subscriptTail_builtinR (x:=w) pl.isList.typeIs slot_list_getitem.lookup
   (wpAny_getItem_list_neg (Q:=fun r s'=>r=w∧EP X pins σ Q r s') pl.isList (by omega) (by rw[List.size_toArray] <;> omega) (by omega) (by rw[hj];simpa using ew) ⟨rfl,fin⟩) hs
theorem FK:IxR X (GZ X.K):=by
 intro value slice pins s σ H x y v u Q I rx ry h hs
 obtain⟨p,xs,i,z,rfl,rfl,hq,he,q⟩:=h
 cases rx
 obtain⟨t,rfl⟩:=ry
 obtain⟨its,r,pl,hz⟩:=I.tuple hq
 obtain⟨j,h1,h2,h3,h4,h5⟩:=uT he
 obtain⟨w,ew,rw'⟩:=r.get h2
 have hl:=r.length
 have hn:=ou
 have fin:EP X pins σ Q w s:=⟨z,H,I,rw',q⟩
 exact subscriptTail_builtinR (x:=w) pl.typeIs slot_tuple_getitem.lookup
  (getItem_tuple (j:=j) (Q:=fun r s'=>r=w∧EP X pins σ Q r s') pl (by omega) (by omega) (by rw[List.size_toArray,← hl];exact h1) (by simpa using ew) ⟨rfl,fin⟩) hs
theorem FL:IxR X G0:=by
 intro value slice pins s σ H x y v u Q I rx ry h hs
 obtain⟨z,i,c,rfl,rfl,hz,he,q⟩:=h
 obtain⟨t,rfl⟩:=rx
 obtain⟨t',rfl⟩:=ry
 obtain⟨j,h1,h2,h3,h4,h5⟩:=uT he
 have hl:z.cps.toList.length=z.length:=by simp [Str.length]
 rw[hl] at h1 h4 h5
 have hn:=ou
 exact tail_any (typeIs_str s z t) slot_str_getitem.lookup (getItem_str (c:=c) (by
  have e1:decide (i < -(2 ^ 63:Int))=false:=decide_eq_false (by omega)
  have e2:decide (i≥2 ^ 63)=false:=decide_eq_false (by omega)
  rw[e1,e2,Bool.or_false]) (by rw[h1];simpa using h2) ⟨.str ⟨#[c]⟩,H,I.tok _,⟨_,rfl⟩,q⟩) hs
def rIx (K:PySem.W.Frag):R2:=fun x y H Q=>G1 K x y H Q∨GZ K x y H Q∨G0 x y H Q
theorem FN:IxR X (rIx X.K):=Dp.or (FK.or FL)
theorem xk (its:List Value) (n j:Nat) (u:Value):Obj.mapSeq (·.setIfInBounds j u) { cls:=.type "list",data:=.seq its.toArray n }={ cls:=.type "list",data:=.seq (its.set j u).toArray n }:=by
 simp [Obj.mapSeq]
theorem Inv.lst {pins:List (Addr×Obj)} {σ:St} {H:Hp} {s:Shared} {p:Addr} {xs:List V} (I:Inv X pins σ H s) (h:H p=some (.lst xs)) :
  ∃ (its:List Value) (n:Nat),Vals xs its∧s.heap.get? p=some { cls:=.type "list",data:=.seq its.toArray n }∧xs.length≤sizeLine:=by
 obtain⟨z,its,n,r,e⟩:=I.hok p _ h
 exact⟨its,n,r,e,z⟩
theorem Inv.FC {pins:List (Addr×Obj)} {σ:St} {H:Hp} {s:Shared} {p:Addr} {xs ys:List V} {its its':List Value} {n n':Nat} {f:Obj→Obj} (I:Inv X pins σ H s) (h:H p=some (.lst xs))
  (ho:s.heap.get? p=some { cls:=.type "list",data:=.seq its.toArray n }) (hf:f { cls:=.type "list",data:=.seq its.toArray n }={ cls:=.type "list",data:=.seq its'.toArray n' }) (r:Vals ys its') (hz:ys.length≤sizeLine) (t:Nat) :
  Inv X pins σ (upd H p (.lst ys)) { s with heap:=s.heap.update p f,toks:=t }:=by
 have e:(s.heap.update p f).get? p=some { cls:=.type "list",data:=.seq its'.toArray n' }:=by
  rw[Heap.get?_update_self f ho (by rw[hf] <;> rfl),hf]
 refine I.write (x:=p) (e:=p) (by rw[h];trivial) (.inl rfl) (fun b u hb q=>(Heap.get?_update_other _ _ (Ne.symm hb)).trans q) ⟨_,e⟩ ?_
 exact⟨hz,its',n',r,e⟩
def x9:V→V→V→Hp→(Hp→Prop)→Prop:=fun o i v H Q=>∃ p xs k j,o=.ref p∧i=.int k∧H p=some (.lst xs)∧ixN xs.length k=some j∧Q (upd H p (.lst (xs.set j v)))
theorem set_list:Ij X x9:=by
 intro pins s σ H o i v ov iv u Q I ro ri rv h
 obtain⟨p,xs,k,j,rfl,rfl,hp,hj,q⟩:=h
 cases ro
 obtain⟨t,rfl⟩:=ri
 obtain⟨its,n,r,ho,hz⟩:=I.lst hp
 obtain⟨h1,h2,h3,h4⟩:=yl hj
 have hl:=r.length
 have hn:=ou
 have I':Inv X pins σ (upd H p (.lst (xs.set j v))) { s with heap:=s.heap.update p (Obj.mapSeq (·.setIfInBounds j u)) }:=
  I.FC hp ho (xk its n j u) (r.set rv j) (by rw[List.length_set];exact hz) s.toks
 by_cases h0:0≤k
 ·have hk:k.toNat=j:=by
   rw[seqIndex_of h0 h4] at h1
   exact Option.some.inj h1
  exact PySem.W.ki_setAt ho h0 (by omega) (by rw[List.size_toArray,← hl];exact h4) (by rw[hk];exact⟨_,I',q⟩)
 ·have hk:(k + (its.toArray.size:Int)).toNat=j:=by
   rw[seqIndex_neg (by omega) h3] at h1
   rw[List.size_toArray,← hl]
   exact Option.some.inj h1
  exact PySem.W.ki_setBack ho (by omega) (by rw[List.size_toArray,← hl];exact h3) (by omega) (by rw[hk];exact⟨_,I',q⟩)
theorem tF (lo hi:Option Int) (n:Nat):(sliceBounds lo hi none n).1=((HT.sIx n 0 lo:Nat):Int)∧(sliceBounds lo hi none n).2.1=((HT.sIx n n hi:Nat):Int)∧(sliceBounds lo hi none n).2.2=1:=by
 refine⟨?_,?_,rfl⟩
 ·cases lo with
  | none=>simp [sliceBounds,HT.sIx]
  | some i=>
   simp only[sliceBounds,HT.sIx,Option.getD_none,show (1:Int) > 0 by decide,if_true]
   by_cases h:i < 0
   ·simp only[h,if_true] <;> omega
   ·simp only[h,if_false] <;> omega
 ·cases hi with
  | none=>simp [sliceBounds,HT.sIx]
  | some i=>
   simp only[sliceBounds,HT.sIx,Option.getD_none,show (1:Int) > 0 by decide,if_true]
   by_cases h:i < 0
   ·simp only[h,if_true] <;> omega
   ·simp only[h,if_false] <;> omega
theorem rM (its:List Value) (lo hi:Option Int):slicePick its.toArray lo hi none=((its.drop (HT.sIx its.length 0 lo)).take (HT.sIx its.length its.length hi - HT.sIx its.length 0 lo)).toArray:=by
 obtain⟨h1,h2,h3⟩:=tF lo hi its.toArray.size
 unfold slicePick
 rw[h1,h2,h3]
 simp only[sliceRange_one,pick_run,List.size_toArray] <;> rfl
def GX (K:PySem.W.Frag):V→Option Int→Option Int→Hp→VK→Prop:=fun x lo hi H Q=>∃ a xs,x=.ref a∧SqL K H a xs∧∀ p,H p=none→Q (.ref p) (upd H p (.lst (xN xs lo hi)))
theorem Cm:SlR X (GX X.K):=by
 intro pins s σ H x v vl vu lo hi sl Q I rx hs pl pu h
 obtain⟨a,xs,rfl,hx,q⟩:=h
 cases rx
 obtain⟨its,r,ht,hz⟩:=I.list hx
 have hlen:=r.length
 refine⟨"list",_,slot_list_getitem.lookup,ht.isList.typeIs,?_⟩
 refine wpAny_getItem_list_slice ht.isList hs pl pu .none (by simp) ?_ (by rw[List.size_toArray] <;> omega)
 rw[rM,← hlen]
 refine⟨.ref s.heap.objs.size,_,I.laid (t':=s.toks) (o:=.lst (xN xs lo hi)) (fun b ob q=>Heap.get?_push_of_some _ q) (Nat.le_refl _) ?_,rfl,q _ (I.hok.fresh (Nat.le_refl _))⟩
 exact⟨Nat.le_trans (vY xs lo hi) hz,_,0,(r.drop (HT.sIx xs.length 0 lo)).take (HT.sIx xs.length xs.length hi - HT.sIx xs.length 0 lo),Heap.get?_push_size _ rfl⟩
def lO:V→Bool
 | .non=>true
 | .bl _=>true
 | .int _=>true
 | .str _=>true
 | _=>false
def eqV:V→V→Bool
 | .non,.non=>true
 | .bl a,.bl b=>a == b
 | .bl a,.int b=>(if a then 1 else 0) == b
 | .int a,.bl b=>a == (if b then 1 else 0)
 | .int a,.int b=>a == b
 | .str a,.str b=>a == b
 | _,_=>false
theorem Ga {A:Around} {s:Shared} {y x:V} {u v:Value} (ry:RelV y u) (rx:RelV x v) (fy:lO y=true) (fx:lO x=true):SeqAt.EqAt A s u v (eqV y x):=by
 cases y with
 | non=>
  cases ry
  cases x with
  | non=>cases rx;exact SeqAt.EqAt.same _
  | bl b=>cases rx;exact SeqAt.EqAt.none_bool b
  | int b=>obtain⟨t,rfl⟩:=rx;exact SeqAt.EqAt.none_int b t
  | str b=>obtain⟨t,rfl⟩:=rx;exact SeqAt.EqAt.none_str b t
  | _=>exact absurd (show false=true from fx) Bool.false_ne_true
 | bl a=>
  cases ry
  cases x with
  | non=>cases rx;exact SeqAt.EqAt.bool_none a
  | bl b=>cases rx;exact SeqAt.EqAt.bool_bool a b
  | int b=>obtain⟨t,rfl⟩:=rx;exact SeqAt.EqAt.bool_int a b t
  | str b=>obtain⟨t,rfl⟩:=rx;exact SeqAt.EqAt.bool_str a b t
  | _=>exact absurd (show false=true from fx) Bool.false_ne_true
 | int a=>
  obtain⟨t',rfl⟩:=ry
  cases x with
  | non=>cases rx;exact SeqAt.EqAt.int_none a t'
  | bl b=>cases rx;exact SeqAt.EqAt.int_bool a t' b
  | int b=>obtain⟨t,rfl⟩:=rx;exact SeqAt.EqAt.int_int a t' b t
  | str b=>obtain⟨t,rfl⟩:=rx;exact SeqAt.EqAt.int_str a t' b t
  | _=>exact absurd (show false=true from fx) Bool.false_ne_true
 | str a=>
  obtain⟨t',rfl⟩:=ry
  cases x with
  | non=>cases rx;exact SeqAt.EqAt.str_none a t'
  | bl b=>cases rx;exact SeqAt.EqAt.str_bool a t' b
  | int b=>obtain⟨t,rfl⟩:=rx;exact SeqAt.EqAt.str_int a t' b t
  | str b=>obtain⟨t,rfl⟩:=rx;exact SeqAt.EqAt.str_str a t' b t
  | _=>exact absurd (show false=true from fx) Bool.false_ne_true
 | _=>exact absurd (show false=true from fy) Bool.false_ne_true
def eqU (x:V) (u:Value):Bool:=match u with
 | .none=>eqV .non x
 | .bool b=>eqV (.bl b) x
 | .int i _=>eqV (.int i) x
 | .str z _=>eqV (.str z) x
 | _=>false
theorem Bv {x y:V} {u:Value} (r:RelV y u) (f:lO y=true):eqU x u=eqV y x:=by
 cases y with
 | non=>cases r;rfl
 | bl b=>cases r;rfl
 | int i=>obtain⟨t,rfl⟩:=r;rfl
 | str z=>obtain⟨t,rfl⟩:=r;rfl
 | _=>exact absurd (show false=true from f) Bool.false_ne_true
theorem uW {x:V}:∀ {xs:List V} {us:List Value},Vals xs us→xs.all lO=true→us.any (eqU x)=xs.any fun y=>eqV y x
 | _,_,.nil,_=>rfl
 | y::xs,u::us,.cons r t,f=>by
  rw[List.all_cons,Bool.and_eq_true] at f
  rw[List.any_cons,List.any_cons,Bv r f.1,uW t f.2]
theorem qF {A:Around} {s:Shared} {x:V} {v:Value} (rx:RelV x v) (fx:lO x=true):∀ {xs:List V} {us:List Value},Vals xs us→xs.all lO=true→∀ u∈us,SeqAt.EqAt A s u v (eqU x u)
 | _,_,.nil,_=>fun u hu=>by cases hu
 | y::xs,u::us,.cons r t,f=>fun u' hu=>by
  rw[List.all_cons,Bool.and_eq_true] at f
  rcases List.mem_cons.mp hu with rfl | hu
  ·rw[Bv r f.1];exact Ga r rx f.1 fx
  ·exact qF rx fx t f.2 u' hu
def inV (x:V) (xs:List V):Bool:=xs.any fun y=>eqV y x
def rIn (K:PySem.W.Frag) (neg:Bool):R2:=fun x y H Q=>∃ p xs,y=.ref p∧(SqL K H p xs∨SqT K H p xs)∧lO x=true∧xs.all lO=true∧Q (.bl (if neg then !inV x xs else inV x xs)) H
theorem zd:OpR X (compareOp .In) (rIn X.K false):=by
 intro pins s σ H x y v u Q I rx ry h
 obtain⟨p,xs,rfl,hq,fx,fs,q⟩:=h
 cases ry
 rcases hq with hq | hq
 ·obtain⟨its,r,pl,hz⟩:=I.list hq
  refine SeqAt.in_listAt (eqU x) pl.isList (fun w hw=>qF rx fx r fs w (by simpa using hw)) ⟨.bl _,H,I,rfl,?_⟩
  rw[show its.toArray.any (eqU x)=its.any (eqU x) by simp,uW r fs]
  exact q
 ·obtain⟨its,r,pl,hz⟩:=I.tuple hq
  refine SeqAt.in_tupleAt (eqU x) pl (fun w hw=>qF rx fx r fs w (by simpa using hw)) ⟨.bl _,H,I,rfl,?_⟩
  rw[show its.toArray.any (eqU x)=its.any (eqU x) by simp,uW r fs]
  exact q
theorem uN:ek X (.builtin "len") (fun xs H Q=>∃ p ys,xs=[.ref p]∧(SqL X.K H p ys∨SqT X.K H p ys)∧Q (.int ys.length) H):=by
 intro pins s σ H xs us Q I r h
 obtain⟨p,ys,rfl,hq,q⟩:=h
 obtain⟨u,rfl,rx⟩:=vals1 r
 cases rx
 have hn:=ou
 rcases hq with hq | hq
 ·obtain⟨its,r',pl,hz⟩:=I.list hq
  have hlen:=r'.length
  exact Calls.call_len_list pl.isList (by simp only[List.size_toArray] <;> omega) ⟨.int ys.length,H,I.tok _,⟨s.toks + 1,by rw[List.size_toArray,hlen]⟩,q⟩
 ·obtain⟨its,r',pl,hz⟩:=I.tuple hq
  have hlen:=r'.length
  exact len_tuple pl (by simp only[List.size_toArray] <;> omega) ⟨.int ys.length,H,I.tok _,⟨s.toks + 1,by rw[List.size_toArray,hlen]⟩,q⟩
theorem uM:ek X (.builtin "len") (fun xs H Q=>∃ z,xs=[.str z]∧z.length≤sizeLine∧Q (.int z.length) H):=by
 intro pins s σ H xs us Q I r h
 obtain⟨z,rfl,hz,q⟩:=h
 obtain⟨u,rfl,t,rfl⟩:=vals1 r
 have hn:=ou
 exact len_str (by omega) ⟨.int z.length,H,I.tok _,⟨_,rfl⟩,q⟩
theorem uL:ek X (.type "list") (fun xs H Q=>∃ p ys,xs=[.ref p]∧(SqL X.K H p ys∨SqT X.K H p ys)∧∀ l,H l=none→Q (.ref l) (upd H l (.lst ys))):=by
 intro pins s σ H xs us Q I r h
 obtain⟨p,ys,rfl,hq,q⟩:=h
 obtain⟨u,rfl,rx⟩:=vals1 r
 cases rx
 have fin:∀ (its:List Value),Vals ys its→ys.length≤sizeLine→∀ (h':Heap) (c':Nat),(∀ b o',s.heap.get? b=some o'→h'.get? b=some o')→
   h'.get? s.heap.objs.size=some { cls:=.type "list",dict:=none,data:=.seq its.toArray c',slots:=#[] }→EP X pins σ Q (.ref s.heap.objs.size) { s with heap:=h' }:=fun its r' hz h' c' kp e=>
  ⟨.ref s.heap.objs.size,_,I.laid (t':=s.toks) kp (Nat.le_refl _) (show eO X.prog X.w _ h' _ (.lst ys) from ⟨hz,its,c',r',e⟩),rfl,q _ (I.hok.fresh (Nat.le_refl _))⟩
 rcases hq with hq | hq
 ·obtain⟨its,r',pl,hz⟩:=I.list hq
  have hlen:=r'.length
  obtain⟨o,ho,hc,n,hd⟩:=pl.isList
  exact call_list_seq p (.inl rfl) ho hc hd (fun h' c' kp e=>fin its r' hz h' c' kp e) (by simp only[List.size_toArray] <;> omega)
 ·obtain⟨its,r',pl,hz⟩:=I.tuple hq
  have hlen:=r'.length
  obtain⟨o,ho,hc,n,hd⟩:=pl
  exact call_list_seq p (.inr rfl) ho hc hd (fun h' c' kp e=>fin its r' hz h' c' kp e) (by simp only[List.size_toArray] <;> omega)
theorem rS:ek X (.type "tuple") (fun xs H Q=>∃ p ys,xs=[.ref p]∧((SqL X.K H p ys∧∀ l,H l=none→Q (.ref l) (upd H l (.tup ys)))∨(SqT X.K H p ys∧Q (.ref p) H))):=by
 intro pins s σ H xs us Q I r h
 obtain⟨p,ys,rfl,h⟩:=h
 obtain⟨u,rfl,rx⟩:=vals1 r
 cases rx
 rcases h with ⟨hq,q⟩ | ⟨hq,q⟩
 ·obtain⟨its,r',pl,hz⟩:=I.list hq
  have hlen:=r'.length
  refine call_tuple_list pl.isList (fun h' kp=>?_) (by simp only[List.size_toArray] <;> omega)
  have I1:Inv X pins σ H { s with heap:=h' }:=I.kept (t':=s.toks) kp
  have I2:Inv X pins σ (upd H h'.objs.size (.tup ys)) { s with heap:=h'.push { cls:=.type "tuple",data:=.seq its.toArray } }:=
   I1.laid (t':=s.toks) (fun b o e=>Heap.get?_push_of_some _ e) (Nat.le_refl _) (show eO X.prog X.w _ _ _ (.tup ys) from ⟨hz,its,r',IsTup.new _ _⟩)
  exact⟨.ref h'.objs.size,_,I2,rfl,q _ (I1.hok.fresh (Nat.le_refl _))⟩
 ·obtain⟨its,r',pl,hz⟩:=I.tuple hq
  exact call_tuple_same pl ⟨.ref p,H,I,rfl,q⟩
def tyV (K:PySem.W.Frag) (T:String) (x:V) (H:Hp):Prop:=match x with
 | .str _=>T="str"
 | .int _=>T="int"
 | .ref p=>(T="list"∧∃ xs,SqL K H p xs)∨(T="tuple"∧∃ o,K.lookup p=some o∧o.cls=.type "tuple"∧o.dict=none)∨
   (T="dict"∧((∃ kvs,H p=some (.dK kvs))∨∃ kvs,H p=some (.dT kvs)))∨(T="set"∧∃ S n,H p=some (.set S n))
 | _=>False
theorem zR {pins:List (Addr×Obj)} {σ:St} {H:Hp} {s:Shared} {T:String} {x:V} {v:Value} (I:Inv X pins σ H s) (r:RelV x v) (ty:tyV X.K T x H) :
  s.TypeIs v T∧∀ a,v=.ref a→∃ ob,s.heap.get? a=some ob∧ob.dict=none:=by
 cases x with
 | str z=>
  obtain⟨t,rfl⟩:=r
  cases (show T="str" from ty)
  exact⟨typeIs_str s z t,fun _ e=>nomatch e⟩
 | int i=>
  obtain⟨t,rfl⟩:=r
  cases (show T="int" from ty)
  exact⟨typeIs_int s i t,fun _ e=>nomatch e⟩
 | ref p=>
  cases r
  rcases ty with ⟨rfl,xs,hq⟩ | ⟨rfl,o,hk,hc,hd⟩ | ⟨rfl,hk⟩ | ⟨rfl,S,n,hk⟩
  ·obtain⟨its,_,pl,_⟩:=I.list hq
   refine⟨pl.isList.typeIs,fun a e=>?_⟩
   cases e
   obtain⟨o,n,e,c,hd,_⟩:=pl
   exact⟨o,e,hd⟩
  ·refine⟨⟨o,I.kIn p o hk,hc⟩,fun a e=>?_⟩
   cases e
   exact⟨o,I.kIn _ o hk,hd⟩
  ·have z:∃ o,s.heap.get? p=some o∧o.ExactDict:=by
    rcases hk with ⟨kvs,hk⟩ | ⟨kvs,hk⟩
    ·obtain⟨_,_,_,_,o,_,_,e,ex,_⟩:=I.hok p _ hk
     exact⟨o,e,ex⟩
    ·obtain⟨_,_,_,_,o,_,_,e,ex,_⟩:=I.hok p _ hk
     exact⟨o,e,ex⟩
   obtain⟨o,e,ex⟩:=z
   refine⟨⟨o,e,ex.1⟩,fun a e2=>?_⟩
   cases e2
   exact⟨o,e,ex.2.1⟩
  ·obtain⟨o,_,_,_,e,ex,_⟩:=I.hok p _ hk
   refine⟨⟨o,e,ex.1⟩,fun a e2=>?_⟩
   cases e2
   exact⟨o,e,ex.2.1⟩
 | _=>exact False.elim ty
def GN (K:PySem.W.Frag) (T:String) (r:V→List V→Hp→VK→Prop) (to:TE):TE:=fun σ H Q=>to σ H fun x H1=>tyV K T x H1∧r x [] H1 Q
def tBM (K:PySem.W.Frag) (T:String) (r:V→List V→Hp→VK→Prop) (to:TE) (t:TA):TE:=fun σ H Q=>to σ H fun x H1=>tyV K T x H1∧t σ H1 fun xs H2=>r x xs H2 Q
variable {o e:Expr} {es:List Expr} {to:TE} {t:TA} {name:Str} {apos cpos:Pos} {T id:String} {r:V→List V→Hp→VK→Prop}
theorem Fj (pa:PlainAttrs T) (slot:Slot T name id) (hty:typeOf (.builtin id)=pure (.type "method_descriptor")) (hm:MtR X id r) (ho:PE X o to)
  (hbase:attributeBase o name X.env (eval o X.env)=eval o X.env:=by rfl) (hline:(apos.endLine == cpos.line)=true:=by rfl):PE X (.Call (.Attribute o name apos) [] [] cpos) (GN X.K T r to):=by
 intro pins s σ H Q I h
 refine wpAny_Call_method0_late hbase hline (thn (ho pins s σ H _ I h) fun v s1 ⟨x,H1,I1,r1,ty,q1⟩=>?_)
 obtain⟨h1,h2⟩:=zR I1 r1 ty
 exact⟨T,id,pa,slot,hty,h1,h2,Calls.callWith_builtin rfl (PySem.evalArgs_none (hm pins s1 σ H1 x [] v [] Q I1 r1 .nil q1))⟩
theorem DZ (pa:PlainAttrs T) (slot:Slot T name id) (hty:typeOf (.builtin id)=pure (.type "method_descriptor")) (hm:MtR X id r) (ho:PE X o to) (ha:PA X (e::es) t)
  (hbase:attributeBase o name X.env (eval o X.env)=eval o X.env:=by rfl)
  (hfew:((backTo cpos (starEach (e::es) X.env)).all (fun x=>!x.1) && (backToKw cpos (keywordEach [] X.env)).all (fun x=>x.1.isSome)
   && decide ((e::es).length + ([]:List Keyword).length + (if ([]:List Keyword).isEmpty then 0 else 1) < 30))=true:=by rfl)
  (hline:(apos.endLine == cpos.line)=true:=by rfl) (hs:starEach (e::es) X.env=(false,eval e X.env)::starEach es X.env:=by rfl) (hplain:(backTo cpos (starEach es X.env)).any (·.1)=false:=by rfl) :
  PE X (.Call (.Attribute o name apos) (e::es) [] cpos) (tBM X.K T r to t):=by
 intro pins s σ H Q I h
 refine wpAny_Call_method_late hbase hfew hline rfl (thn (ho pins s σ H _ I h) fun v s1 ⟨x,H1,I1,r1,ty,q1⟩=>?_)
 obtain⟨h1,h2⟩:=zR I1 r1 ty
 refine⟨T,id,pa,slot,hty,h1,h2,?_⟩
 have hA:=ha cpos pins s1 σ H1 _ I1 q1
 rw[hs] at hA ⊢
 refine Calls.callWith_builtin (by show (false || (backTo cpos (starEach es X.env)).any (·.1))=false;rw[hplain] <;> rfl) (Calls.evalArgs_plain ?_)
 exact thn hA fun us s2 ⟨vs,H2,I2,r2,q2⟩=>hm pins s2 σ H2 x vs v us Q I2 r1 r2 q2
end
end L2
namespace L2
open PySem PySem.Spec PyProof.Rows
def MtM (X:Cx) (id:String) (r:V→List V→Hp→VK→Prop):Prop:=
 ∀ (pins:List (Addr×Obj)) (s:Shared) (σ:St) (H:Hp) (x:V) (xs:List V) (v:Value) (us:List Value) (Q:VK),Inv X pins σ H s→RelV x v→Vals xs us→r x xs H Q→
  wpAny (model X.prog X.w) X.A (call (.builtin id) (v::us)) (EP X pins σ Q) X.xe s
theorem Vals.one:∀ {x:V} {us:List Value},Vals [x] us→∃ u,us=[u]∧RelV x u
 | _,_,.cons r .nil=>⟨_,rfl,r⟩
theorem Vals.zero:∀ {us:List Value},Vals [] us→us=[]
 | _,.nil=>rfl
theorem Vals.dropLast {xs:List V} {us:List Value} (h:Vals xs us):Vals xs.dropLast us.dropLast:=by
 induction h with
 | nil=>exact .nil
 | cons r t ih=>
  cases t with
  | nil=>exact .nil
  | cons q t'=>exact .cons r ih
theorem xM {α:Type} (l:List α):l.eraseIdx (l.length - 1)=l.dropLast:=by
 induction l with
 | nil=>rfl
 | cons a r ih=>
  cases r with
  | nil=>rfl
  | cons b r=>
   have e:(a::b::r).length - 1=((b::r).length - 1) + 1:=by
    have h1:(a::b::r).length=r.length + 2:=rfl
    have h2:(b::r).length=r.length + 1:=rfl
    omega
   rw[e,List.eraseIdx_cons_succ,ih]
   all_goals rfl
section
variable {X:Cx} {pins:List (Addr×Obj)} {σ:St} {H:Hp} {s:Shared} {l b:Addr} {xs ys zs:List V}
theorem Inv.Dk {its its':List Value} {n:Nat} {f:Array Value→Array Value} {t':Nat} (I:Inv X pins σ H s) (hH:H l=some (.lst xs))
  (e:s.heap.get? l=some { cls:=.type "list",data:=.seq its.toArray n }) (hf:f its.toArray=its'.toArray) (hv:Vals ys its') (hz:ys.length≤sizeLine) :
  Inv X pins σ (upd H l (.lst ys)) { s with heap:=s.heap.update l (Obj.mapSeq f),toks:=t' }:=by
 have q:=PySem.IsL.update e f
 rw[hf] at q
 refine I.write (x:=l) (e:=l) (by rw[hH];exact trivial) (.inl rfl) (fun b' u hb hu=>(Heap.get?_update_other s.heap (Obj.mapSeq f) (Ne.symm hb)).trans hu) ⟨_,q⟩ ?_
 exact⟨hz,its',_,hv,q⟩
theorem Inv.Jf {its:List Value} {t':Nat} (I:Inv X pins σ H s) (hv:Vals ys its) (hz:ys.length≤sizeLine) :
  Inv X pins σ (upd H s.heap.objs.size (.lst ys)) { s with heap:=s.heap.push { cls:=.type "list",data:=.seq its.toArray },toks:=t' }:=
 I.laid (fun _ _ q=>Heap.get?_push_of_some _ q) (Nat.le_refl _) ⟨hz,its,0,hv,Heap.get?_push_size _ rfl⟩
theorem Inv.fresh (I:Inv X pins σ H s):H s.heap.objs.size=none:=I.hok.fresh (Nat.le_refl _)
theorem Inv.xt (I:Inv X pins σ H s) (hH:H l=some (.lst xs)):xs.length≤sizeLine∧∃ (its:List Value) (n:Nat),Vals xs its∧xs.length=its.length∧s.heap.get? l=some { cls:=.type "list",data:=.seq its.toArray n }:=by
 obtain⟨z,its,n,r,e⟩:=I.hok l _ hH
 exact⟨z,its,n,r,r.length,e⟩
theorem AQ {n:Nat} (h:n≤sizeLine):Builtin.List.listTooLong n=false:=by
 unfold Builtin.List.listTooLong
 exact decide_eq_false (by omega)
end
section
variable {X:Cx}
def t5:V→List V→Hp→VK→Prop:=fun x vs H Q=>∃ l xs y,x=.ref l∧vs=[y]∧H l=some (.lst xs)∧xs.length < sizeLine∧Q .non (upd H l (.lst (xs++[y])))
theorem zi:MtM X "list.append" t5:=by
 intro pins s σ H x vs v us Q I rx rv h
 obtain⟨l,xs,y,rfl,rfl,hH,hz,q⟩:=h
 cases rx
 obtain⟨u,rfl,ru⟩:=rv.one
 obtain⟨z,its,n,r,hl,e⟩:=I.xt hH
 refine call_meets F.slot_list_append ⟨_,e,rfl⟩ F.entry_list_append (F.args_list_append_2 _ _) (PySem.list_append l its.toArray n u (by rw[List.size_toArray];omega)) ⟨e,?_⟩
 refine⟨.non,_,I.Dk (its':=its++[u]) hH e (by simp) (r.append (.cons ru .nil)) ?_,rfl,q⟩
 rw[List.length_append,List.length_singleton]
 omega
def t4:V→List V→Hp→VK→Prop:=fun x vs H Q=>∃ l b xs zs,x=.ref l∧vs=[.ref b]∧H l=some (.lst xs)∧H b=some (.lst zs)∧xs.length + zs.length≤sizeLine∧Q .non (upd H l (.lst (xs++zs)))
theorem zh:MtM X "list.extend" t4:=by
 intro pins s σ H x vs v us Q I rx rv h
 obtain⟨l,b,xs,zs,rfl,rfl,hH,hB,hz,q⟩:=h
 cases rx
 obtain⟨u,rfl,ru⟩:=rv.one
 cases ru
 obtain⟨z,its,n,r,hl,e⟩:=I.xt hH
 obtain⟨z2,its2,n2,r2,hl2,e2⟩:=I.xt hB
 have hsz:its.toArray.size + its2.toArray.size≤sizeLine:=by rw[List.size_toArray,List.size_toArray];omega
 have hlong:¬ (!its.toArray.isEmpty && Builtin.List.listTooLong (its.toArray.size + its2.toArray.size))=true:=by
  rw[AQ hsz,Bool.and_false]
  exact Bool.false_ne_true
 refine call_meets F.slot_list_extend ⟨_,e,rfl⟩ F.entry_list_extend (F.args_list_extend_2 _ _)
  (AutoSeq1.list_extend_list_list_0 l its.toArray n b its2.toArray n2 hlong (by rw[List.size_toArray];omega) (by omega)) ⟨e,e2,?_⟩
 refine⟨.non,_,I.Dk (its':=its++its2) hH e (by simp) (r.append r2) ?_,rfl,q⟩
 rw[List.length_append]
 omega
def IL:V→List V→Hp→VK→Prop:=fun x vs H Q=>∃ l xs y,x=.ref l∧vs=[]∧H l=some (.lst xs)∧xs[xs.length - 1]?=some y∧Q y (upd H l (.lst xs.dropLast))
theorem Je:MtM X "list.pop" IL:=by
 intro pins s σ H x vs v us Q I rx rv h
 obtain⟨l,xs,y,rfl,rfl,hH,hy,q⟩:=h
 cases rx
 have hus:=rv.zero
 subst hus
 obtain⟨z,its,n,r,hl,e⟩:=I.xt hH
 obtain⟨u,hu,ru⟩:=r.get hy
 have hy':its.toArray[its.toArray.size - 1]?=some u:=by
  show its.toArray[its.length - 1]?=some u
  rw[← Array.getElem?_toList,← hl]
  exact hu
 refine call_meets F.slot_list_pop ⟨_,e,rfl⟩ F.entry_list_pop (F.args_list_pop_1 _) (MeetsSeq.list_pop_last l its.toArray n u hy' (by rw[List.size_toArray];omega)) ⟨e,?_⟩
 refine⟨y,_,I.Dk (its':=its.dropLast) hH e ?_ r.dropLast ?_,ru,q⟩
 ·show its.toArray.eraseIdxIfInBounds (its.toArray.size - 1)=its.dropLast.toArray
  rw[List.size_toArray,List.eraseIdxIfInBounds_toArray,xM]
 ·rw[List.length_dropLast]
  omega
def IK:V→List V→Hp→VK→Prop:=fun x vs H Q=>∃ l xs i k y,x=.ref l∧vs=[.int i]∧H l=some (.lst xs)∧-(2 ^ 63)≤i∧i < 2 ^ 63∧seqIndex? i xs.length=some k∧xs[k]?=some y∧Q y (upd H l (.lst (xs.eraseIdx k)))
def GY:V→List V→Hp→VK→Prop:=fun x vs H Q=>∃ l xs,x=.ref l∧vs=[]∧H l=some (.lst xs)∧Q .non (upd H l (.lst xs.reverse))
def As:V→List V→Hp→VK→Prop:=fun x vs H Q=>∃ l xs,x=.ref l∧vs=[]∧H l=some (.lst xs)∧Q .non (upd H l (.lst []))
theorem AX:MtM X "list.clear" As:=by
 intro pins s σ H x vs v us Q I rx rv h
 obtain⟨l,xs,rfl,rfl,hH,q⟩:=h
 cases rx
 have hus:=rv.zero
 subst hus
 obtain⟨z,its,n,r,hl,e⟩:=I.xt hH
 refine call_meets F.slot_list_clear ⟨_,e,rfl⟩ F.entry_list_clear (F.args_list_clear_1 _) (AutoSeq1.list_clear_list_0 l its.toArray n (by rw[List.size_toArray];omega)) ⟨e,?_⟩
 exact⟨.non,_,I.Dk (its':=[]) (ys:=[]) hH e rfl .nil (Nat.zero_le _),rfl,q⟩
def G2:R2:=fun x y H Q=>∃ l b xs zs,x=.ref l∧y=.ref b∧H l=some (.lst xs)∧H b=some (.lst zs)∧xs.length + zs.length≤sizeLine∧∀ p,H p=none→Q (.ref p) (upd H p (.lst (xs++zs)))
theorem Ft:OpR X (binaryOp .Add) G2:=by
 intro pins s σ H x y v u Q I rx ry h
 obtain⟨l,b,xs,zs,rfl,rfl,hH,hB,hz,q⟩:=h
 cases rx
 cases ry
 obtain⟨z,its,n,r,hl,e⟩:=I.xt hH
 obtain⟨z2,its2,n2,r2,hl2,e2⟩:=I.xt hB
 refine PySem.P.add_list e e2 ?_ (by rw[List.size_toArray,List.size_toArray];omega)
 have ea:its.toArray++its2.toArray=(its++its2).toArray:=by simp
 rw[ea]
 exact⟨.ref _,_,I.Jf (t':=s.toks) (r.append r2) (by rw[List.length_append];omega),rfl,q _ I.fresh⟩
def JX:R2:=fun x y H Q=>∃ l k xs,x=.ref l∧y=.int k∧H l=some (.lst xs)∧-(2 ^ 63)≤k∧k < 2 ^ 63∧xs.length * k.toNat≤sizeLine∧
 ∀ p,H p=none→Q (.ref p) (upd H p (.lst (List.replicate k.toNat xs).flatten))
end
section
variable {prog:Program} {w:World} {A:Around} {E:Value→Shared→Prop} {s:Shared}
end
section
variable {X:Cx}
end
end L2
namespace L2
open PySem PySem.Spec PyProof.Rows
section
variable {κ:Type} [DecidableEq κ]
def yT (kvs:List (κ×V)) (k:κ):Option V:=(kvs.find? fun kv=>decide (kv.1=k)).map (·.2)
def putK (kvs:List (κ×V)) (k:κ) (v:V):List (κ×V):=
 if (kvs.any fun kv=>decide (kv.1=k))=true then kvs.map (fun kv=>if kv.1=k then (kv.1,v) else kv) else kvs++[(k,v)]
def BF (kvs:List (κ×V)) (k:κ):List (κ×V):=kvs.filter fun kv=>decide (kv.1≠k)
end
abbrev KT (H:Hp):List (List Key×V)→List (List Key×Addr×Value)→Prop:=Paired fun p q=>p.1=q.1∧H q.2.1=some (.tup (p.1.map kV))∧RelV p.2 q.2.2
section
variable {P:Program} {w:World} {H:Hp} {h:Heap} {a:Addr}
end
def zK (H:Hp) (a:Addr) (y:V) (r:Option V):Prop:=
 (∃ kvs k,Rd H a (.dK kvs)∧y=kV k∧r=yT kvs k)∨∃ kvs k b,Rd H a (.dT kvs)∧y=.ref b∧H b=some (.tup (k.map kV))∧r=yT kvs k
def Il (H:Hp) (a:Addr) (y v:V) (H':Hp):Prop:=
 (∃ kvs k,H a=some (.dK kvs)∧y=kV k∧kvs.length < sizeLine∧H'=upd H a (.dK (putK kvs k v)))∨
 ∃ kvs k b,H a=some (.dT kvs)∧y=.ref b∧H b=some (.tup (k.map kV))∧kvs.length < sizeLine∧H'=upd H a (.dT (putK kvs k v))
section
variable {X:Cx} {pins:List (Addr×Obj)} {σ:St} {H:Hp} {s:Shared} {a:Addr} {y v:V} {u r:Value} {o:Option V} {A:Around} {E:Value→Shared→Prop}
end
section
variable {X:Cx} {pins:List (Addr×Obj)} {σ:St} {H:Hp} {s:Shared} {a:Addr} {kvs:List (Key×V)} {k:Key} {u:Value} {A:Around} {E:Value→Shared→Prop}
end
def J9 (i:Expr):Prop:=∀ ov iv,subscripted i false ov iv=operate [ov,iv] (getItem ov iv)
def Ju (td ty:TE):TE:=fun σ H Q=>td σ H fun x H1=>ty σ H1 fun y H2=>∃ a v,x=.ref a∧zK H2 a y (some v)∧Q v H2
def JQ (ty td:TE):TE:=fun σ H Q=>ty σ H fun y H1=>td σ H1 fun x H2=>∃ a o,x=.ref a∧zK H2 a y o∧Q (.bl o.isSome) H2
def Io (ty td:TE):TE:=fun σ H Q=>ty σ H fun y H1=>td σ H1 fun x H2=>∃ a o,x=.ref a∧zK H2 a y o∧Q (.bl (!o.isSome)) H2
def Jx (td ty tv:TE):TS:=fun D σ H=>tv σ H fun v H1=>td σ H1 fun x H2=>ty σ H2 fun y H3=>∃ a H4,x=.ref a∧Il H3 a y v H4∧D.nx σ H4
def Jz (td ty tv:TE) (rd:V→V→Hp→VK→Prop):TS:=fun D σ H=>td σ H fun x H1=>ty σ H1 fun y H2=>∃ a v,x=.ref a∧zK H2 a y (some v)∧
 tv σ H2 fun y2 H3=>rd v y2 H3 fun z H4=>∃ H5,Il H4 a y z H5∧D.nx σ H5
def Jy (td ty:TE):TS:=fun D σ H=>td σ H fun x H1=>ty σ H1 fun y H2=>∃ a kvs k,x=.ref a∧H2 a=some (.dK kvs)∧y=kV k∧(yT kvs k).isSome=true∧D.nx σ (upd H2 a (.dK (BF kvs k)))
section
variable {X:Cx} {o i e value:Expr} {pos pos' tpos:Pos} {td ty tv:TE}
end
def ID:TE:=fun _ H Q=>∀ p,H p=none→Q (.ref p) (upd H p (.dK []))
def IC:TE:=fun _ H Q=>∀ p,H p=none→Q (.ref p) (upd H p (.dT []))
section
variable {X:Cx} {pos:Pos}
end
def wI:List (TE×TE)→St→Hp→(List (V×V)→Hp→Prop)→Prop
 | [],_,H,Q=>Q [] H
 | (tk,tv)::r,σ,H,Q=>tk σ H fun x H1=>tv σ H1 fun y H2=>wI r σ H2 fun ps H3=>Q ((x,y)::ps) H3
abbrev VV:List (V×V)→List (Value×Value)→Prop:=Paired fun p q=>RelV p.1 q.1∧RelV p.2 q.2
def PPs (X:Cx) (pos:Pos) (keys:List (Option Expr)) (values:List Expr) (trs:List (TE×TE)):Prop:=
 ∀ (pins:List (Addr×Obj)) (s:Shared) (σ:St) (H:Hp) (Q:List (V×V)→Hp→Prop),Inv X pins σ H s→wI trs σ H Q→
  wpAny (model X.prog X.w) X.A (evalPairs (pairTrees keys values X.env pos)) (fun vs s'=>∃ ps H',Inv X pins σ H' s'∧VV ps vs∧Q ps H') X.xe s
def FA (kvs more:List (Key×V)):List (Key×V):=more.foldl (fun acc kv=>putK acc kv.1 kv.2) kvs
def Jt (trs:List (TE×TE)):TE:=fun σ H Q=>∀ p,H p=none→wI trs σ (upd H p (.dK [])) fun ps H2=>H2 p=some (.dK [])∧∃ kvs:List (Key×V),ps=kvs.map (fun kv=>(kV kv.1,kv.2))∧kvs.length≤15∧Q (.ref p) (upd H2 p (.dK (FA [] kvs)))
structure M1 (X:Cx) (o:Expr) (m:Str) (apos:Pos) (e:Expr) (cpos:Pos):Prop where
 base:attributeBase o m X.env (eval o X.env)=eval o X.env
 few:((backTo cpos (starEach [e] X.env)).all (fun x=>!x.1) && (backToKw cpos (keywordEach [] X.env)).all (fun x=>x.1.isSome)
  && decide (([e]:List Expr).length + ([]:List Keyword).length + (if ([]:List Keyword).isEmpty then 0 else 1) < 30))=true
 line:(apos.endLine == cpos.line)=true
 trees:backTo cpos (starEach [e] X.env)=[(false,eval e X.env)]
structure M2 (X:Cx) (o:Expr) (m:Str) (apos:Pos) (e f:Expr) (cpos:Pos):Prop where
 base:attributeBase o m X.env (eval o X.env)=eval o X.env
 few:((backTo cpos (starEach [e,f] X.env)).all (fun x=>!x.1) && (backToKw cpos (keywordEach [] X.env)).all (fun x=>x.1.isSome)
  && decide (([e,f]:List Expr).length + ([]:List Keyword).length + (if ([]:List Keyword).isEmpty then 0 else 1) < 30))=true
 line:(apos.endLine == cpos.line)=true
 trees:backTo cpos (starEach [e,f] X.env)=[(false,eval e X.env),(false,eval f X.env)]
def IsD (H:Hp) (a:Addr):Prop:=(∃ kvs,Rd H a (.dK kvs))∨∃ kvs,Rd H a (.dT kvs)
section
variable {X:Cx} {pins:List (Addr×Obj)} {σ:St} {H:Hp} {s:Shared} {a:Addr} {y d:V} {u r:Value} {o:Option V} {A:Around} {E:Value→Shared→Prop}
end
def IF (td ty:TE):TE:=fun σ H Q=>td σ H fun x H1=>∃ a,x=.ref a∧IsD H1 a∧ty σ H1 fun y H2=>∃ o,zK H2 a y o∧Q (o.getD .non) H2
def IE (td ty tx:TE):TE:=fun σ H Q=>td σ H fun x H1=>∃ a,x=.ref a∧IsD H1 a∧ty σ H1 fun y H2=>tx σ H2 fun z H3=>∃ o,zK H3 a y o∧Q (o.getD z) H3
def IB (td ty:TE):TE:=fun σ H Q=>td σ H fun x H1=>∃ a,x=.ref a∧IsD H1 a∧ty σ H1 fun y H2=>∃ kvs k v,H2 a=some (.dK kvs)∧y=kV k∧yT kvs k=some v∧Q v (upd H2 a (.dK (BF kvs k)))
def IA (td ty tx:TE):TE:=fun σ H Q=>td σ H fun x H1=>∃ a,x=.ref a∧IsD H1 a∧ty σ H1 fun y H2=>tx σ H2 fun z H3=>∃ kvs k,H3 a=some (.dK kvs)∧y=kV k∧
 (∀ v,yT kvs k=some v→Q v (upd H3 a (.dK (BF kvs k))))∧(yT kvs k=none→Q z H3)
section
variable {X:Cx} {o e f:Expr} {apos cpos:Pos} {td ty tx:TE}
end
section
variable {X:Cx} {pins:List (Addr×Obj)} {σ:St} {H:Hp} {s:Shared} {a:Addr} {kvs:List (Key×V)} {A:Around} {E:Value→Shared→Prop}
end
section
variable {X:Cx} {pins:List (Addr×Obj)} {σ:St} {H:Hp} {s:Shared} {a:Addr} {y:V} {u:Value} {A:Around} {E:Value→Shared→Prop}
end
end L2
namespace Att
open PySem PySem.W PySem.Calls PyProof.Rows
theorem p3 {P:Params} {h:Heap}:∀ (ns:List Int) (vs:List Value),WellAll P h vs (ns.map WData.int)→IntsAre vs ns:=by
 intro ns
 induction ns with
 | nil=>
  intro vs w
  rw[List.map_nil] at w
  cases w
  exact .nil
 | cons n ns ih=>
  intro vs w
  rw[List.map_cons] at w
  cases w with
  | cons a b=>
   cases a
   exact .cons _ _ (ih _ b)
theorem y3 {l:OpenLaw} {n:Nat} (hn:l.most=some n) {P:Params} {h:Heap} {args:List WData} {vals:List Value}
  (hpre:l.row.toRowW.claim.pre args=true) (hwl:WellAll P h vals args) :
  ∃ a vs ns,vals=[Value.ref a]∧args=[WData.list (ns.map WData.int)]∧h.get? a=some { cls:=.type "list",data:=.seq vs.toArray }∧IntsAre vs ns∧ns.length≤n:=by
 have hsh:WShape.hasAll [] args [.list .int]=true:=(pre_splitW hpre).1
 have hc:l.pre.holds [] { args:=args }=true:=(pre_splitW hpre).2
 obtain⟨d,r,rfl,h1,h2⟩:=hasAllW_cons hsh
 obtain rfl:=hasAllW_nil h2
 obtain⟨xs,rfl,h3⟩:=hasW_list h1
 obtain⟨ns,rfl⟩:=items_int h3
 have hlen:ns.length≤n:=by
  unfold OpenLaw.pre at hc
  have h4:(WTm.not (.lt (.lit (.int (n:Int))) (.len (.arg 0)))).holds [] { args:=[.list (ns.map .int)] }=true:=by
   have h4:=(holds_andW hc).1
   rw[hn] at h4
   exact h4
  have h5:=condW_of h4 (w_not (w_lt w_lit (w_len_list (w_arg rfl))))
  rw[List.length_map] at h5
  refine Nat.le_of_not_lt fun q=>?_
  have q':(n:Int) < ((ns.length:Nat):Int):=by omega
  first
   | (rw[decide_eq_true q'] at h5;exact absurd h5 (by decide))
   | (simp at h5;omega)
 cases hwl with
 | cons w1 w2=>
  cases w2
  cases w1 with
  | list ho hall=>exact⟨_,_,ns,rfl,rfl,ho,p3 ns _ hall,hlen⟩
theorem y8 (l:OpenLaw) (args:List WData):l.row.toRowW.claim.post args (.bool true) args=true:=
 postW_of (r:=l.row.toRowW) (X:=(true == true))
  (show WShape.has [] (.bool true) .bool=true by first | rfl | decide | simp [WShape.has,WShape.arms,WShape.armsAll])
  (show (WTm.eq .res (.lit (.bool true))).value [] { args:=args,res:=some (.bool true),after:=args }=some (.bool (true == true)) from w_eq_bool (w_res rfl) w_lit) rfl
theorem wu {l:OpenLaw} {n:Nat} {q:Program} {loose:List Str} {XP:(Str→Option Value)→Heap→Prop} {YP:World→Heap→Prop} {d:DefRec}
  (hn:l.most=some n) (hdf:d.params.defaults=[])
  (call:∀ (w:World) (s₀ s₁:Shared) (mg mb:Str→Option Value) (fa:Addr) (o:Obj) (pm cd doc:Value) (a:Addr) (vs:List Value) (ns:List Int),
   Ground q loose [] XP w s₀ mg mb s₁.heap→YP w s₁.heap→
   s₁.heap.get? fa=some o→o.data=.func (docDef d.name d.params d.body d.scope pm cd doc)→s₁.heap.CodeRec cd d.name→mg d.name=some (.ref fa)→
   s₁.heap.get? a=some { cls:=.type "list",data:=.seq vs.toArray }→IntsAre vs ns→ns.length≤n→s₁.gens=#[]→
   codeAny (model l.prog w) callerA (.call (.ref fa) ⟨[.ref a],[]⟩) (fun r s'=>r=.ok (.ret (.bool true))∧OldK s₁.heap s'.heap∧s'.os=s₁.os∧AllBare s'.gens) s₁) :
  WalkO q loose XP YP l.row.toRowW d [] (fun f vs=>PySem.call f vs):=by
 intro w s₀ s₁ mg mb G Y fa o pm cd doc dV kV ho hd hcd hD hmg hg args vals as hpre hlay hrd hwl hlo
 obtain rfl:dV=.none:=Dflts.none hD hdf
 obtain rfl:kV=.none:=Dflts.noKw hD
 obtain⟨a,vs,ns,rfl,rfl,hobj,hints,hlen⟩:=y3 hn hpre hwl
 refine enter_call (codeAny_mono (call w s₀ s₁ mg mb fa o pm cd doc a vs ns G Y ho (fd_plain hd) hcd hmg hobj hints hlen hg) fun r s' hq=>?_)
 obtain⟨rfl,h2,h3,h4⟩:=hq
 exact⟨.inl ⟨.bool true,.bool true,[],rfl,fun _=>rfl,.bool true,y8 l _,fun _=>⟨List.Pairwise.nil,fun _ hm=>(nomatch hm)⟩⟩,h2,h3,h4⟩
section
variable {prog:Program} {w:World} {A:Around} {E:Value→Shared→Prop} {s:Shared} {K:Frag}
def IY (h:Heap):Heap:={ h with objs:=#[] }
def ledger (h:Heap) (L d:Addr):List (Addr×Obj):=(List.range h.objs.size).filterMap fun a=>if a=L∨a=d then none else (h.get? a).map fun o=>(a,o)
end
end Att
namespace L2
open PySem PySem.Spec PyProof.Rows
theorem r_:∀ {vs:List Value} {ns:List Int},IntsAre vs ns→Vals (ns.map V.int) vs
 | _,_,.nil=>.nil
 | _,_,.cons n t h=>.cons ⟨t,rfl⟩ (r_ h)
def Gx (H:Hp):Prop:=∀ b,H b=none∨∃ o xs,H b=some (.frz o (.lst xs))
theorem A6 {P:Program} {w:World} {K:PySem.W.Frag} {mg mb:Str→Option Value} {CX:CXT} {k:Nat} {fa a:Addr} {fd:FuncData} {x:Str} {sp:Sp} {s₁:Shared} {vs:List Value} {ns:List Int}
  (KX:K.In s₁.heap) (hns:s₁.heap.Ns mainGlobals mg) (hb:s₁.heap.Ns builtinsNs mb) (hbb:∀ x:Str,x≠"__name__"→mb x=bootBuiltins x) (hlim:s₁.heap.NoLimit) (hg:s₁.gens=#[])
  (ha:s₁.heap.get? a=some { cls:=.type "list",data:=.seq vs.toArray }) (hi:IntsAre vs ns) (hl:ns.length≤sizeLine) (hr:dQ k callerA)
  (F:∀ base:Heap,K.In base→base.Ns mainGlobals mg→aY P w K mg base CX k fa fd [x] sp) (hbind:∀ (s:Shared) (u:Value),BindsTo s fd ⟨[u],[]⟩ [(x,u)])
  (hsp:∀ H:Hp,Gx H→SqL K H a (ns.map V.int)→sp [.ref a] H (fun v _=>v=.bl true) fun _ _ _=>False)
  (hCX:∀ H e s',CX [] H s₁ (fun _ _ _=>False) e s'→False) :
  codeAny (model P w) callerA (.call (.ref fa) ⟨[.ref a],[]⟩) (fun r s'=>r=.ok (.ret (.bool true))∧OldK s₁.heap s'.heap∧s'.os=s₁.os∧AllBare s'.gens) s₁:=by
 have rv:=r_ hi
 have lenV:=hi.length
 have core:∀ H:Hp,Gx H→SqL K H a (ns.map V.int)→HOk P w H s₁.heap→(∀ b,H b≠none→b=a)→(H a≠none→K.lookup a=none)→
   codeAny (model P w) callerA (.call (.ref fa) ⟨[.ref a],[]⟩) (fun r s'=>r=.ok (.ret (.bool true))∧OldK s₁.heap s'.heap∧s'.os=s₁.os∧AllBare s'.gens) s₁:=by
  intro H hO hS hok hA hK
  have base_of:∀ {b:Addr} {o:Obj},s₁.heap.get? b=some o→H b=none→(uv s₁.heap H).get? b=some o:=fun e n=>Bc e n
  have noA:∀ {b:Addr} {o:Obj} {es:Array DictEntry} {ep:Nat},s₁.heap.get? b=some o→o.data=.dict es ep→H b=none:=fun {b o es ep} e d=>by
   cases q:H b with
   | none=>rfl
   | some u=>
    have e':b=a:=hA b (by rw[q];simp)
    subst e'
    rw[ha] at e;cases e
    have d':Data.seq vs.toArray _=Data.dict es ep:=d
    cases d'
  have nsK:∀ {b:Addr} {m:Str→Option Value},s₁.heap.Ns b m→(uv s₁.heap H).Ns b m:=fun {b m} ⟨o,es,ep,e,d,r⟩=>⟨o,es,ep,base_of e (noA e d),d,r⟩
  have hKb:K.In (uv s₁.heap H):=fun b o e=>base_of (KX b o e) (by
   cases q:H b with
   | none=>rfl
   | some u=>
    have e':b=a:=hA b (by rw[q];simp)
    subst e'
    rw[hK (by rw[q];simp)] at e;cases e)
  have hM:Mod K mg (uv s₁.heap H):=⟨hKb,nsK hns,⟨mb,nsK hb,hbb⟩,let ⟨mc,h1,h2⟩:=hlim;⟨mc,nsK h1,h2⟩⟩
  have e0:xU P w K mg (uv s₁.heap H) callerA [] s₁ H:=⟨rfl,hM,fun b o e=>C_ e,Nat.le_of_eq (zw _ _),trivial,fun b hb=>absurd (show b∈([]:List Addr) from hb) (by simp),hok,.of_eq hg⟩
  refine codeAny_mono ((F _ hKb (nsK hns)).run callerA [] s₁ H ⟨[.ref a],[]⟩ [.ref a] [.ref a] _ _ hr e0 (hbind s₁ (.ref a)) (.cons rfl .nil) (hsp H hO hS)) fun r s' h=>?_
  cases r with
  | error e=>exact(hCX H e s' h).elim
  | ok fl=>
   cases fl with
   | next=>exact False.elim h
   | brk=>exact False.elim h
   | cont=>exact False.elim h
   | ret u=>
    obtain⟨v,H',os,bare,un,hok',r',q⟩:=h
    have q':v=.bl true:=q
    subst q'
    obtain rfl:u=Value.bool true:=r'
    refine⟨rfl,OldK.of_keep fun b o e=>?_,os,bare⟩
    cases q:H b with
    | none=>exact un.keep b o e q (by intro z;exact absurd (show b∈([]:List Addr) from z) (by simp)) (by simp)
    | some u=>
     rcases hO b with z | ⟨ob,xs,z⟩
     ·rw[q] at z;cases z
     ·have z2:=un.frzs b ob _ z
      obtain⟨e1,_⟩:=hok b _ z
      obtain⟨e2,_⟩:=hok' b _ z2
      rw[e] at e1;cases e1
      exact e2
 cases hk:K.lookup a with
 | some o=>
  have e:=KX a o hk
  rw[ha] at e
  cases e
  refine core (fun _=>none) (fun _=>.inl rfl) (.inr ⟨_,vs.toArray,_,hk,rfl,rfl,rfl,by rw[List.size_toArray,lenV];exact hl,by simpa using rv⟩) (fun b u z=>by have z':(none:Option HO)=some u:=z;cases z') (fun b z=>absurd rfl z) fun z=>absurd rfl z
 | none=>
  refine core (fun b=>if b=a then some (.frz { cls:=.type "list",data:=.seq vs.toArray } (.lst (ns.map V.int))) else none) (fun b=>?_) (.inl (.inr ⟨{ cls:=.type "list",data:=.seq vs.toArray },if_pos rfl⟩)) (fun b u z=>?_) (fun b z=>?_) fun _=>hk
  ·by_cases hb:b=a
   ·exact .inr ⟨_,_,if_pos hb⟩
   ·exact .inl (if_neg hb)
  ·by_cases hb:b=a
   ·have z':=(if_pos hb).symm.trans z
    cases z'
    subst hb
    exact⟨ha,by rw[List.length_map];exact hl,vs,_,rv,ha⟩
   ·have z':=(if_neg hb).symm.trans z
    cases z'
  ·by_cases hb:b=a
   ·exact hb
   ·exact absurd (if_neg hb) z
end L2
namespace L2
open PySem PySem.Spec PyProof.Rows
abbrev KOf {K:PySem.W.Frag} {h:Heap} (_:K.In h):PySem.W.Frag:=K
theorem Cf {l:PySem.W.OpenLaw} {n k:Nat} {q:Program} {loose:List Str} {XP:(Str→Option Value)→Heap→Prop} {YP:World→Heap→Prop} {d:DefRec} {K:Params→PySem.W.Frag} {CX:World→CXT} {sp:World→Sp} {x:Str}
  (hn:l.most=some n) (hn2:n≤sizeLine) (hdf:d.params.defaults=[]) (hr:dQ k callerA)
  (hY:∀ (w:World) (h:Heap),YP w h→(K w.params).In h)
  (F:∀ (w:World) (mg:Str→Option Value) (fa:Addr) (h:Heap),(K w.params).In h→h.Ns mainGlobals mg→mg d.name=some (.ref fa)→
   ∃ fd:FuncData,(∀ (s:Shared) (u:Value),BindsTo s fd ⟨[u],[]⟩ [(x,u)])∧
    ∀ base:Heap,(K w.params).In base→base.Ns mainGlobals mg→aY l.prog w (K w.params) mg base (CX w) k fa fd [x] (sp w))
  (hsp:∀ (w:World) (H:Hp) (a:Addr) (ns:List Int),ns.length≤n→Gx H→SqL (K w.params) H a (ns.map V.int)→sp w [.ref a] H (fun v _=>v=.bl true) fun _ _ _=>False)
  (hCX:∀ (w:World) (H:Hp) (s:Shared) (e:Value) (s':Shared),CX w [] H s (fun _ _ _=>False) e s'→False) :
  PySem.W.WalkO q loose XP YP l.row.toRowW d [] (fun f vs=>PySem.call f vs):=by
 refine Att.wu hn hdf fun w s₀ s₁ mg mb fa o pm cd doc a vs ns G Y ho hd hcd hmg hobj hints hlen hg=>?_
 have KX:=hY w _ Y
 obtain⟨fd,hb,hF⟩:=F w mg fa _ KX G.T.g hmg
 exact A6 KX G.T.g G.T.b G.T.builtins G.T.nolimit hg hobj hints (Nat.le_trans hlen hn2) hr hF hb (fun H hO hS=>hsp w H a ns hlen hO hS) fun H e s'=>hCX w H s₁ e s'
end L2
namespace L2
open PySem PySem.Spec PyProof.Rows
def inClass (s:Stmt) (j:Nat):Stmt:=match s with
 | .ClassDef _ _ _ body _ _ _ _ _ _ _=>body.getD j (.Pass ⟨0,0,0,0⟩)
 | _=>.Pass ⟨0,0,0,0⟩
def ai (s:Stmt):Arguments:=match s with
 | .FunctionDef _ a _ _ _ _ _ _ _ _=>a
 | _=>{ posonlyargs:=[],args:=[],vararg:=none,kwonlyargs:=[],kw_defaults:=[],kwarg:=none,defaults:=[] }
def ah (s:Stmt):List Stmt:=match s with
 | .FunctionDef _ _ b _ _ _ _ _ _ _=>b
 | _=>[]
def ab (s:Stmt):Scope:=match s with
 | .FunctionDef _ _ _ _ _ _ sc _ _ _=>sc
 | _=>{ kind:=.function,names:=[],isGenerator:=false,isCoroutine:=false }
abbrev CX0:CXT:=fun _ _ _ _ _ _=>False
abbrev E0:XK:=fun _ _ _=>False
theorem vv {X:Cx}:Passes CX0 X E0:=fun _ _ _ _ _ _ _ h=>h.elim
structure Fun (K:PySem.W.Frag) (x qual:Str) (st:Stmt) (f:Addr) (fd:FuncData):Prop where
 ex:∃ (oc:Value) (od:Option Addr) (kV doc pm:Value) (an:Option Addr) (cdv ct:Value) (osl:Array (Option Value)),
  fd=PySem.W.fnOf x qual (ai st) (ah st) (ab st) .none kV doc pm an cdv ct∧K.lookup f=some ⟨oc,od,.func fd,osl⟩∧PySem.W.codeIn K cdv qual=true
 kp:PySem.W.keepIn K (.ref f)=true
section
variable {P:Program} {w:World} {K:PySem.W.Frag} {mg:Str→Option Value} {base:Heap}
theorem Fun.ok {x qual:Str} {st:Stmt} {f:Addr} {fd:FuncData} {N ps:List Str} {k:Nat} {sp:Sp} (F:Fun K x qual st f fd) (S:aw N ps (ab st)) (len:∀ vs H Q E,sp vs H Q E→vs.length=ps.length)
  (hbody:∀ (cdv:Value) (A:Around) (outer:List Env) (s:Shared) (H:Hp) (vs:List V) (Q:VK) (E:XK),dQ k (A.deeper (envOfC qual (ab st) s.heap.objs.size f cdv))→sp vs H Q E→
   ∃ t,PSs (vW CX0 P w K mg base N qual (ab st) f cdv A outer s H E).nox (ah st) t∧t { nx:=fun _ H'=>Q .non H',rt:=Q } (start N vs) H):aY P w K mg base CX0 (k + 1) f fd ps sp:=by
 obtain⟨oc,od,kV,doc,pm,an,cdv,ct,osl,rfl,lk,hcd⟩:=F.ex
 refine HH lk hcd S len fun A outer s H vs Q E hr hsp=>?_
 obtain⟨t,h,q⟩:=hbody cdv A outer s H vs Q E hr hsp
 exact⟨t,h.nox,q⟩
theorem Fun.binds {x qual:Str} {st:Stmt} {f:Addr} {fd:FuncData} {ps:List Str} (F:Fun K x qual st f fd)
  (h:∀ (kV doc pm:Value) (an:Option Addr) (cdv ct:Value) (us:List Value),us.length=ps.length→bindArgs (PySem.W.fnOf x qual (ai st) (ah st) (ab st) .none kV doc pm an cdv ct) ⟨us,[]⟩=pure (ps.zip us)):Binds K fd ps []:=by
 obtain⟨oc,od,kV,doc,pm,an,cdv,ct,osl,rfl,lk,hcd⟩:=F.ex
 exact .all (h kV doc pm an cdv ct)
theorem ak {x qual:Str} {st:Stmt} {f:Addr} {oc:Value} {od an:Option Addr} {osl:Array (Option Value)} {kV doc pm cdv ct:Value} (l:K.lookup f=some ⟨oc,od,.func (PySem.W.fnOf x qual (ai st) (ah st) (ab st) .none kV doc pm an cdv ct),osl⟩)
  (c:PySem.W.codeIn K cdv qual=true) (k:PySem.W.keepIn K (.ref f)=true):Fun K x qual st f (PySem.W.fnOf x qual (ai st) (ah st) (ab st) .none kV doc pm an cdv ct):=⟨⟨oc,od,kV,doc,pm,an,cdv,ct,osl,rfl,l,c⟩,k⟩
end
section
variable {X:Cx}
end
theorem zt {A B:Prop} (h:B):if false=true then A else B:=by
 rw[if_neg Bool.false_ne_true]
 exact h
theorem zr {A B:Prop} (h:A):if true=true then A else B:=by
 rw[if_pos rfl]
 exact h
def aP (H H':Hp):Prop:=∀ b o,H b=some o→H' b=some o
theorem aP.refl (H:Hp):aP H H:=fun _ _ h=>h
theorem aP.trans {H H1 H2:Hp} (a:aP H H1) (b:aP H1 H2):aP H H2:=fun c o h=>b c o (a c o h)
theorem aP.free {H H':Hp} (e:aP H H') {l:Addr} (h:H' l=Option.none):H l=Option.none:=by
 cases q:H l with
 | none=>rfl
 | some o=>
  rw[e l o q] at h
  cases h
theorem aP.seq {K:PySem.W.Frag} {H H':Hp} {a:Addr} {xs:List V} (e:aP H H') (h:SqL K H a xs):SqL K H' a xs:=by
 rcases h with (h | ⟨o,h⟩) | h
 ·exact .inl (.inl (e _ _ h))
 ·exact .inl (.inr ⟨o,e _ _ h⟩)
 ·exact .inr h
section
variable {κ:Type} [DecidableEq κ]
end
end L2
namespace L2
open PySem PySem.Spec PyProof.Rows
def takes (cells:List (Str×Addr)):List (Str×NameKind)→List (Str×Addr)→List (Str×Addr)
 | [],acc=>acc
 | (n,k)::r,acc=>takes cells r (if k=NameKind.free then (n,(cells.lookup n).getD 0)::acc else acc)
theorem rR {sc:Scope} {env:Env} (h:∀ y∈sc.names,y.2=.free→∃ c,env.cells.lookup y.1=some c):closureFor sc env=pure (takes env.cells sc.names []):=by
 have go:∀ (l:List (Str×NameKind)) (acc:List (Str×Addr)),(∀ y∈l,y.2=.free→∃ c,env.cells.lookup y.1=some c)→
   (forIn l acc (fun (x:Str×NameKind) (cs:List (Str×Addr))=>match x with
    | (name,kind)=>if (kind == NameKind.free)=true then do let c ← cellOf env name;pure (ForInStep.yield ((name,c)::cs)) else pure (ForInStep.yield cs)):Sem (List (Str×Addr)))=pure (takes env.cells l acc):=by
  intro l
  induction l with
  | nil=>intro acc _;rfl
  | cons x l ih=>
   intro acc hl
   obtain⟨n,k⟩:=x
   rw[List.forIn_cons]
   by_cases hk:k=NameKind.free
   ·subst hk
    obtain⟨c,hc⟩:=hl (n,.free) List.mem_cons_self rfl
    have hc':env.cells.lookup n=some c:=hc
    have e1:cellOf env n=pure c:=by unfold cellOf;rw[hc']
    have e2:takes env.cells ((n,NameKind.free)::l) acc=takes env.cells l ((n,c)::acc):=by
     show takes env.cells l (if NameKind.free=NameKind.free then (n,(env.cells.lookup n).getD 0)::acc else acc)=_
     rw[if_pos rfl,hc']
     rfl
    rw[e2,← ih ((n,c)::acc) fun y hy=>hl y (List.mem_cons_of_mem _ hy)]
    show ((if (NameKind.free == NameKind.free)=true then (do let c ← cellOf env n;pure (ForInStep.yield ((n,c)::acc))) else pure (ForInStep.yield acc)) >>= _)=_
    rw[if_pos (by decide),e1,pure_bind,pure_bind]
   ·have e2:takes env.cells ((n,k)::l) acc=takes env.cells l acc:=by
     show takes env.cells l (if k=NameKind.free then _ else acc)=_
     rw[if_neg hk]
    have hb:(k == NameKind.free)=false:=by simpa using hk
    rw[e2,← ih acc fun y hy=>hl y (List.mem_cons_of_mem _ hy)]
    show ((if (k == NameKind.free)=true then _ else pure (ForInStep.yield acc)) >>= _)=_
    rw[hb,if_neg Bool.false_ne_true,pure_bind]
 have:=go sc.names [] h
 unfold closureFor
 first
  | exact(congrArg (fun z=>z >>= fun cs=>pure cs) this).trans (pure_bind _ _)
  | exact this
  | simpa using this
theorem sd {cells:List (Str×Addr)} {n:Str} {c:Addr}:∀ (names:List (Str×NameKind)) (acc:List (Str×Addr)),(takes cells names acc).lookup n=some c→
  acc.lookup n=some c∨((n,NameKind.free)∈names∧c=(cells.lookup n).getD 0)
 | [],_,h=>.inl h
 | (m,k)::r,acc,h=>by
  rcases sd r _ h with q | ⟨q1,q2⟩
  ·by_cases hk:k=NameKind.free
   ·rw[if_pos hk] at q
    subst hk
    by_cases e:n=m
    ·subst e
     rw[List.lookup_cons,beq_self_eq_true] at q
     exact .inr ⟨List.mem_cons_self,(Option.some.inj q).symm⟩
    ·have:(n == m)=false:=by simpa using e
     rw[List.lookup_cons,this] at q
     exact .inl q
   ·rw[if_neg hk] at q
    exact .inl q
  ·exact .inr ⟨List.mem_cons_of_mem _ q1,q2⟩
theorem se {cells:List (Str×Addr)} {n:Str}:∀ (names:List (Str×NameKind)) (acc:List (Str×Addr)),(acc.lookup n).isSome=true→((takes cells names acc).lookup n).isSome=true
 | [],_,h=>h
 | (m,k)::r,acc,h=>by
  refine se r _ ?_
  by_cases hk:k=NameKind.free
  ·rw[if_pos hk]
   cases e:n == m with
   | true=>rw[List.lookup_cons,e];rfl
   | false=>rw[List.lookup_cons,e];exact h
  ·rw[if_neg hk];exact h
theorem n6 {cells:List (Str×Addr)} {n:Str}:∀ (names:List (Str×NameKind)) (acc:List (Str×Addr)),(n,NameKind.free)∈names→((takes cells names acc).lookup n).isSome=true
 | [],_,h=>by simp at h
 | (m,k)::r,acc,h=>by
  rcases List.mem_cons.mp h with e | h
  ·cases e
   refine se r _ ?_
   rw[if_pos rfl,List.lookup_cons,beq_self_eq_true]
   rfl
  ·exact n6 r _ h
structure Blk (N:List Str) (osc sc:Scope) (Nc:List Str) (fr:List (Option Nat)):Prop where
 kind:sc.kind=.function
 nocell:∀ y∈sc.names,y.2≠.cell
 free:∀ y∈sc.names,y.2=.free→osc.names.lookup y.1=some .cell∨osc.names.lookup y.1=some .free
 locs:∀ y∈sc.names,y.2=.local→sc.names.lookup y.1=some .local
 nd:Nc.Nodup
 len:Nc.length=fr.length
 whence:∀ p∈Nc.zip fr,(p.2.all fun j=>decide (N[j]?=some p.1) && decide (sc.names.lookup p.1=some .free))=true
abbrev bX (X:Cx) (sc:Scope) (Nc:List Str) (s₀:Shared) (H₀:Hp) (C:Addr) (ex:List Addr) (pn:List (Addr×Obj)):Cx where
 prog:=X.prog
 w:=X.w
 K:=X.K
 mg:=X.mg
 base:=X.base
 A:=X.A
 N:=Nc
 s₀:=s₀
 H₀:=H₀
 env:=compEnvC sc (takes X.env.cells sc.names []) C X.env
 outer:=X.stack
 stack:=X.stack
 ex:=ex
 fn:=fun _=>false
 calm:=X.calm
 pn:=pn
 xe:=fun _ _=>False
def kU (fr:List (Option Nat)) (σ:St):St:=fr.map fun o=>o.bind fun j=>(σ[j]?).join
def Ey (J:It) (g:TG) (te:TE) (σ0:St) (H1:Hp) (Q:VK):Prop:=
 ∃ W:Nat→Nat→List V→St→Hp→Prop,(∃ m,W 0 m [] σ0 H1)∧∀ i m ys σc H,W i m ys σc H→ys.length < sizeLine∧
  ((J.stop i H∧∀ l,H l=none→Q (.ref l) (upd H l (.lst ys)))∨
   (J.go i H∧∀ x H',J.yld i H x H'→g x σc H' fun σ2 H2=>∃ N:VK,(∀ y H3,N y H3→∃ m',m' < m∧W (i + 1) m' (ys++[y]) σ2 H3)∧te σ2 H2 N))
def sf (fr:List (Option Nat)) (wi:TI) (g:TG) (te:TE):TE:=fun σ H Q=>wi σ H fun J H1=>Ey J g te (kU fr σ) H1 Q
theorem ke {sc:Scope} {env:Env} {x:Str} {k:NameKind} (h:(relabel sc env).names.lookup x=some k):sc.names.lookup x=some k∨(k=.cell∧sc.names.lookup x=some .free):=by
 have go:∀ l:List (Str×NameKind),(l.map fun (n,k)=>if (k == NameKind.free && env.scope.kind == .function && env.kindOf n == some .cell) then (n,NameKind.cell) else (n,k)).lookup x=some k→l.lookup x=some k∨(k=.cell∧l.lookup x=some .free):=by
  intro l
  induction l with
  | nil=>intro h;simp at h
  | cons p r ih=>
   intro h
   obtain⟨n,k'⟩:=p
   rw[List.map_cons] at h
   by_cases hc:(k' == NameKind.free && env.scope.kind == .function && env.kindOf n == some .cell)=true
   ·have h2:List.lookup x ((n,NameKind.cell)::r.map fun (n,k)=>if (k == NameKind.free && env.scope.kind == .function && env.kindOf n == some .cell) then (n,NameKind.cell) else (n,k))=some k:=by
     have h3:=h
     simp only[hc,if_true] at h3
     exact h3
    have hk:k'=.free:=by
     simp only[Bool.and_eq_true] at hc
     simpa using hc.1.1
    subst hk
    cases hx:x == n with
    | true=>
     rw[List.lookup_cons,hx] at h2
     rw[List.lookup_cons,hx]
     cases h2
     exact .inr ⟨rfl,rfl⟩
    | false=>
     rw[List.lookup_cons,hx] at h2
     rw[List.lookup_cons,hx]
     exact ih h2
   ·have hc':(k' == NameKind.free && env.scope.kind == .function && env.kindOf n == some .cell)=false:=by simpa using hc
    have h2:List.lookup x ((n,k')::r.map fun (n,k)=>if (k == NameKind.free && env.scope.kind == .function && env.kindOf n == some .cell) then (n,NameKind.cell) else (n,k))=some k:=by
     have h3:=h
     simp only[hc',Bool.false_eq_true,if_false] at h3
     exact h3
    cases hx:x == n with
    | true=>
     rw[List.lookup_cons,hx] at h2
     rw[List.lookup_cons,hx]
     exact .inl h2
    | false=>
     rw[List.lookup_cons,hx] at h2
     rw[List.lookup_cons,hx]
     exact ih h2
 exact go _ h
theorem tY {sc:Scope} {env:Env} {x:Str} (h:sc.names.lookup x=some .free):(relabel sc env).names.lookup x=some .cell∨(relabel sc env).names.lookup x=some .free:=by
 have go:∀ l:List (Str×NameKind),l.lookup x=some .free→(l.map fun (n,k)=>if (k == NameKind.free && env.scope.kind == .function && env.kindOf n == some .cell) then (n,NameKind.cell) else (n,k)).lookup x=some .cell∨(l.map fun (n,k)=>if (k == NameKind.free && env.scope.kind == .function && env.kindOf n == some .cell) then (n,NameKind.cell) else (n,k)).lookup x=some .free:=by
  intro l
  induction l with
  | nil=>intro h;simp at h
  | cons p r ih=>
   intro h
   obtain⟨n,k'⟩:=p
   rw[List.map_cons]
   by_cases hc:(k' == NameKind.free && env.scope.kind == .function && env.kindOf n == some .cell)=true
   ·simp only[hc,if_true]
    cases hx:x == n with
    | true=>left;simp [List.lookup_cons,hx]
    | false=>
     rw[List.lookup_cons,hx] at h
     simp only[List.lookup_cons,hx]
     exact ih h
   ·have hc':(k' == NameKind.free && env.scope.kind == .function && env.kindOf n == some .cell)=false:=by simpa using hc
    simp only[hc',Bool.false_eq_true,if_false]
    cases hx:x == n with
    | true=>
     rw[List.lookup_cons,hx] at h
     right
     simp only[List.lookup_cons,hx]
     exact h
    | false=>
     rw[List.lookup_cons,hx] at h
     simp only[List.lookup_cons,hx]
     exact ih h
 exact go _ h
section
variable {X:Cx} {pins:List (Addr×Obj)} {σ:St}
theorem gO {sc:Scope} {Nc:List Str} {fr:List (Option Nat)} (B:Blk X.N X.env.scope sc Nc fr) (ok:X.Ok) {n:Str} {c:Addr} (h:(takes X.env.cells sc.names []).lookup n=some c):X.env.cells.lookup n=some c:=by
 rcases sd _ _ h with q | ⟨q1,q2⟩
 ·simp at q
 ·obtain⟨c',hc'⟩:=ok.has n (B.free _ q1 rfl)
  rw[hc'] at q2
  rw[hc',q2]
  rfl
theorem eZ {n:Str} {k:NameKind}:∀ {l:List (Str×NameKind)},l.lookup n=some k→(n,k)∈l:=fun h=>PySem.mem_of_lookup h
theorem BY {sc:Scope} {Nc:List Str} {fr:List (Option Nat)} (B:Blk X.N X.env.scope sc Nc fr) {s₀:Shared} {H₀:Hp} {C:Addr} {ex:List Addr} {pn:List (Addr×Obj)} (I:Inv X pins σ H₀ s₀) (hC:s₀.heap.objs.size≤C)
  (hex:∀ b∈ex,b < s₀.heap.objs.size∧b∉X.fs∧b≠X.env.locals∧(∀ x c,X.env.cells.lookup x=some c→c≠b)∧∀ o,X.base.get? b≠some o):(bX X sc Nc s₀ H₀ C ex pn).Ok where
 mod:=I.ok.mod
 kind:=B.kind
 glob:=I.ok.glob
 blt:=I.ok.blt
 above:=hC
 inj:=fun x y c h1 h2=>I.ok.inj x y c (gO B I.ok h1) (gO B I.ok h2)
 has:=fun x hx=>by
  have hf:sc.names.lookup x=some .free:=by
   rcases hx with hx | hx
   ·rcases ke hx with q | ⟨_,q⟩
    ·exact absurd rfl (B.nocell _ (eZ q))
    ·exact q
   ·rcases ke hx with q | ⟨_,q⟩
    ·exact q
    ·exact q
  exact Option.isSome_iff_exists.mp (n6 _ _ (eZ hf))
 cab:=fun x c h=>by cases (show false=true from h)
 hd:=I.ok.hd
 frames:=I.ok.frames
 stk:=.inl rfl
 exf:=fun b hb=>⟨fun e=>by have:=(hex b hb).1;rw[e] at this;exact absurd (Nat.lt_of_lt_of_le this hC) (Nat.lt_irrefl _),fun x c h=>(hex b hb).2.2.2.1 x c (gO B I.ok h)⟩
 bs:=fun b o e=>I.bs b o e
 bsz:=Nat.le_trans I.ok.bsz I.sz
 noex:=fun b o e hb=>(hex b hb).2.2.2.2 o e
 exfs:=fun b hb hf=>by
  rcases List.mem_cons.mp (I.tD b hf) with e | e
  ·exact(hex b hb).2.2.1 e
  ·exact(hex b hb).2.1 e
 oz:=I.stack
 frf:=fun b hb=>I.xY b hb
end
end L2
namespace L2
open PySem PySem.Spec PyProof.Rows
section
variable {X:Cx}
abbrev cm (us:List Value) (n:Nat):Obj:={ cls:=.type "list",data:=.seq us.toArray n }
theorem xu {α:Type} {Nc:List Str} {fr:List α} {i:Nat} {x:Str} {o:α} (h1:Nc[i]?=some x) (h2:fr[i]?=some o):(x,o)∈Nc.zip fr:=by
 have h3:(Nc.zip fr)[i]?=some (x,o):=by
  rw[List.getElem?_zip_eq_some]
  exact⟨h1,h2⟩
 exact List.mem_of_getElem? h3
theorem yF {pins:List (Addr×Obj)} {σ:St} {sc:Scope} {Nc:List Str} {fr:List (Option Nat)} (B:Blk X.N X.env.scope sc Nc fr) {s₀ s₄:Shared} {H₀:Hp} {C D:Addr} {o:Obj} {ex:List Addr} {mC:Str→Option Value}
  (ok:(bX X sc Nc s₀ H₀ C ex (X.pn++pins)).Ok) (I:Inv X pins σ H₀ s₀) (hC:s₀.heap.objs.size≤C) (ho:s₄.os=s₀.os) (hg:s₄.gens=s₀.gens) (hk:∀ b u,s₀.heap.get? b=some u→s₄.heap.get? b=some u) (hn:s₄.heap.Ns C mC)
  (hD:s₀.heap.get? D=some o) (hDH:H₀ D=none) (hDL:D≠X.env.locals) (hDf:D∉X.fs) (hDc:∀ v,o.data≠.cell v) :
  Inv (bX X sc Nc s₀ H₀ C ex (X.pn++pins)) [(D,o)] (kU fr σ) H₀ s₄:=by
 have stk:∀ b,b≠X.env.locals→b∉X.fs→b∉frs X.stack:=fun b h1 h2 h3=>by
  rcases List.mem_cons.mp (I.tD b h3) with e | e
  ·exact h1 e
  ·exact h2 e
 have ltC:∀ {b:Addr} {u:Obj},s₀.heap.get? b=some u→b≠C:=fun e z=>absurd (Nat.lt_of_lt_of_le (Heap.lt_size e) (by rw[z];exact hC)) (Nat.lt_irrefl _)
 refine⟨ok,ho,by rw[hg];exact I.bare,Un.kept hk,⟨mC,hn,fun i x v h1 h2 h3=>?_⟩,fun x c h=>?_,I.hok.fresh hC,fun x c h=>?_,fun p hp=>?_,I.hok.kept hk,?_⟩
 ·have h2':(fr.map fun o=>o.bind fun j=>(σ[j]?).join)[i]?=some (some v):=h2
  rw[List.getElem?_map] at h2'
  cases ef:fr[i]? with
  | none=>rw[ef] at h2';cases h2'
  | some oj=>
   rw[ef] at h2'
   have h4:(oj.bind fun j=>(σ[j]?).join)=some v:=Option.some.inj h2'
   cases oj with
   | none=>cases h4
   | some j=>
    have hz:=B.whence _ (xu h1 ef)
    have hz':(decide (X.N[j]?=some x) && decide (sc.names.lookup x=some .free))=true:=hz
    rw[Bool.and_eq_true] at hz'
    have e1:X.N[j]?=some x:=of_decide_eq_true hz'.1
    have e2:sc.names.lookup x=some .free:=of_decide_eq_true hz'.2
    have h5:σ[j]?=some (some v):=by
     have h6:(σ[j]?).join=some v:=h4
     cases e3:σ[j]? with
     | none=>rw[e3] at h6;cases h6
     | some y=>rw[e3] at h6;exact congrArg some h6
    have hkd:=B.free _ (eZ e2) rfl
    obtain⟨m,hm,hl⟩:=I.loc
    have vis:Vis X.env.scope x:=by rcases hkd with k | k;exact .inr (.inl k);exact .inr (.inr k)
    obtain⟨u,r,l⟩:=hl j x v e1 h5 vis
    refine⟨u,r,.inr ⟨tY e2,?_⟩⟩
    rcases l with ⟨k,_⟩ | ⟨_,c,hc,hcell⟩
    ·have k':X.env.scope.names.lookup x=some .local:=k
     rcases hkd with q | q
     ·rw[q] at k';cases k'
     ·rw[q] at k';cases k'
    ·obtain⟨c',hc'⟩:=Option.isSome_iff_exists.mp (n6 (cells:=X.env.cells) sc.names [] (eZ e2))
     have hc2:=gO B I.ok hc'
     rw[hc] at hc2
     cases hc2
     obtain⟨oc,ho1,ho2⟩:=hcell
     exact⟨c,hc',oc,hk _ _ ho1,ho2⟩
 ·obtain⟨v,oc,h1,h2⟩:=I.cell x c (gO B I.ok h)
  exact⟨v,oc,hk _ _ h1,h2⟩
 ·exact I.freeC x c (gO B I.ok h)
 ·rcases List.mem_append.mp hp with hp | hp
  ·obtain⟨e1,e2,e3,e4,e5⟩:=I.pin p hp
   exact⟨hk _ _ e1,e2,ltC e1,stk _ e3 e4,e5⟩
  ·have e:p=(D,o):=by simpa using hp
   subst e
   exact⟨hk _ _ hD,hDH,ltC hD,stk _ hDL hDf,hDc⟩
 ·show (fr.map _).length=Nc.length
  rw[List.length_map,B.len]
abbrev RunsTo (prog : Program) (w : World) (A : Around) {α : Type} (c : Sem α) (t : Shared) (Q : α → Shared → Prop) : Prop := wpAny (model prog w) A c Q (fun _ _ => False) t
theorem RunsTo.go {prog : Program} {w : World} {A : Around} {α : Type} {c : Sem α} {t : Shared} {Q Q' : α → Shared → Prop} {E : Value → Shared → Prop} (h : RunsTo prog w A c t Q) (f : ∀ a u, Q a u → Q' a u) : wpAny (model prog w) A c Q' E t := wpAny_mono h f fun _ _ z => z.elim
theorem uG {prog : Program} {w : World} {A : Around} {R : Result → Shared → Prop} {s : Shared} {elt tg iter : Expr} {sc : Scope} {pos : Pos} {it acc : Value} {env : Env} (J : Nat → Shared → Prop)
    (one : ∀ k t, J k t → RunsTo prog w A (pyNext it) t fun r t1 => match r with
      | none => R (.ok .next) t1
      | some v => RunsTo prog w A (letOwnedTupleGo tg it v) t1 fun _ t2 => RunsTo prog w A (assign tg env v) t2 fun _ t3 => RunsTo prog w A (eval elt env) t3 fun x t4 =>
          RunsTo prog w A (call (.builtin "list.append") [acc, x]) t4 fun _ t5 => ∃ j, j < k ∧ J j t5)
    (k : Nat) (h : J k s) : codeAny (model prog w) A (.compLoop (.ListComp elt [⟨tg, iter, [], 0⟩] sc pos) 0 it acc env) R s :=
  PySem.W.kcp_loop J (fun k t hJ => (one k t hJ).go fun r t1 q => match r, q with
    | none, q => q
    | some _, q => RunsTo.go q fun _ _ q => RunsTo.go q fun _ _ q => RunsTo.go q fun _ _ q => RunsTo.go q fun _ _ q => q) k h
theorem qT {elt iter tg:Expr} {sc:Scope} {pos:Pos} {Nc:List Str} {fr:List (Option Nat)} {g:TG} {te:TE} (B:Blk X.N X.env.scope sc Nc fr) (hc:X.calm=true)
  (hg:∀ s₀ H₀ C ex pn,PG (bX X sc Nc s₀ H₀ C ex pn) tg g) (he:∀ s₀ H₀ C ex pn,PE (bX X sc Nc s₀ H₀ C ex pn) elt te)
  {pins:List (Addr×Obj)} {σ:St} {s2:Shared} {H2:Hp} {it:Addr} {fp:List Addr} {tn:Nat→Heap→Prop} {J:It} (I2:Inv X pins σ H2 s2) (T:Turn X.prog X.w X.K tg J fp it tn) (st2:tn 0 s2.heap) (f2:∀ b∈fp,fX X pins H2 b)
  {Q:VK} (cw:Ey J g te (kU fr σ) H2 Q) {RR:Value→Addr→Result→Shared→Prop} {E:Value→Shared→Prop}
  (hRR:∀ D C s' H',Inv X pins σ H' s'→(∃ m,s'.heap.Ns C m)→fX X pins H' C→Q (.ref D) H'→RR (.ref D) C (.ok .next) s') :
  wpAny (model X.prog X.w) X.A (newList []) (fun acc s₃=>wpAny (model X.prog X.w) X.A (newFunctionEnv sc X.env.globals (takes X.env.cells sc.names []) [] X.env.qual none .none (some X.env)) (fun cenv s₄=>
   codeAny (model X.prog X.w) X.A (.compStart (.ListComp elt [⟨tg,iter,[],0⟩] sc pos) 0 (.ref it) acc { cenv with scope:=relabel sc X.env }) (RR acc cenv.locals) s₄) E s₃) E s2:=by
 obtain⟨W,⟨m0,w0⟩,turn⟩:=cw
 refine wpAny_newObj_type (wpAny_newFunctionEnv B.nocell (by intro y hy;simp at hy) (fun h₁ hns₁ hsb₁=>?_) B.kind)
 dsimp only at hns₁ hsb₁ ⊢
 generalize hH2:s2.heap.push { cls:=.type "list",dict:=none,data:=.seq ([]:List Value).toArray }=hp at hns₁ hsb₁ ⊢
 have hCs:hp.objs.size=s2.heap.objs.size + 1:=by rw[← hH2,Heap.size_push]
 generalize hCe:hp.objs.size=C at hns₁ hsb₁ ⊢
 generalize hDe:s2.heap.objs.size=D at hCs ⊢
 have hDC:D≠C:=by rw[← hCe,hCs];exact Nat.ne_of_lt (Nat.lt_succ_self _)
 have up:∀ b o,s2.heap.get? b=some o→hp.get? b=some o:=fun b o e=>by rw[← hH2];exact Heap.get?_push_of_some _ e
 have hDp:hp.get? D=some (cm [] 0):=by rw[← hH2,← hDe];exact Heap.get?_push_size _ rfl
 have I3:Inv X pins σ H2 { s2 with heap:=hp }:=I2.kept (t':=s2.toks) up
 have hD0:H2 D=none:=I2.hok.fresh (by rw[hDe];exact Nat.le_refl _)
 have fD:fX X pins H2 D:=I2.p4 (by rw[hDe];exact Nat.le_refl _) hD0
 have fpo:∀ b∈fp,∃ o,s2.heap.get? b=some o∧∀ v,o.data≠.cell v:=T.obj 0 _ st2
 have fplt:∀ b∈fp,b < D:=fun b hb=>by obtain⟨o,e,_⟩:=fpo b hb;rw[← hDe];exact Heap.lt_size e
 have hDfp:D∉fp:=fun hb=>Nat.lt_irrefl _ (fplt D hb)
 have hCfp:C∉fp:=fun hb=>by have:=fplt C hb;rw[← hCe,hCs] at this;exact absurd (Nat.lt_of_succ_lt this) (Nat.lt_irrefl _)
 have nobase:∀ b,(b∈X.ex∨X.s₀.heap.objs.size≤b)→∀ o,X.base.get? b≠some o:=fun b h o e=>by
  rcases h with h | h
  ·exact I2.ok.noex b o e h
  ·exact absurd (Nat.lt_of_lt_of_le (Heap.lt_size e) (Nat.le_trans I2.ok.bsz h)) (Nat.lt_irrefl _)
 have hex:∀ b∈D::fp,b < hp.objs.size∧b∉X.fs∧b≠X.env.locals∧(∀ x c,X.env.cells.lookup x=some c→c≠b)∧∀ o,X.base.get? b≠some o:=fun b hb=>by
  have fb:fX X pins H2 b:=by
   rcases List.mem_cons.mp hb with e | hb
   ·rw[e];exact fD
   ·exact f2 b hb
  refine⟨?_,fb.2.2.1,fb.2.1,fb.2.2.2.2.1,nobase b fb.2.2.2.1⟩
  rcases List.mem_cons.mp hb with e | hb
  ·rw[e,hCs];exact Nat.lt_succ_self _
  ·rw[hCs];exact Nat.lt_succ_of_lt (fplt b hb)
 have hCle:hp.objs.size≤C:=by rw[hCe];exact Nat.le_refl _
 have ok:(bX X sc Nc { s2 with heap:=hp } H2 C (D::fp) (X.pn++pins)).Ok:=BY B I3 hCle hex
 have old:∀ b u,hp.get? b=some u→h₁.get? b=some u:=fun b u e=>by
  have hb:b≠C:=by rw[← hCe];exact Nat.ne_of_lt (Heap.lt_size e)
  exact(hsb₁.2 b hb).trans (Heap.get?_push_of_some _ e)
 have J0:Inv (bX X sc Nc { s2 with heap:=hp } H2 C (D::fp) (X.pn++pins)) [(D,cm [] 0)] (kU fr σ) H2 { s2 with heap:=h₁,toks:=s2.toks + ([]:List (Str×Value)).length }:=
  yF B ok I3 hCle rfl rfl old hns₁ hDp hD0 fD.2.1 fD.2.2.1 (fun v z=>by cases z)
 have fpY:∀ {H':Hp} {u:Obj},(∀ b∈fp,H' b=none)→∀ b∈fp,fX (bX X sc Nc { s2 with heap:=hp } H2 C (D::fp) (X.pn++pins)) [(D,u)] H' b:=fun {H' u} hn b hb=>
  ⟨hn b hb,fun e=>hCfp (by have e':b=C:=e;rw[← e'];exact hb),ok.exfs b (List.mem_cons_of_mem _ hb),.inl (List.mem_cons_of_mem _ hb),(ok.exf b (List.mem_cons_of_mem _ hb)).2,fun p hp'=>by
   rcases List.mem_append.mp hp' with q | q
   ·exact(f2 b hb).2.2.2.2.2 p q
   ·have e:p=(D,u):=by simpa using q
    rw[e]
    exact fun z=>hDfp (by have z':D=b:=z;rw[z'];exact hb)⟩
 have cellY:∀ {x:Str} {c:Addr},(takes X.env.cells sc.names []).lookup x=some c→c≠D:=fun h=>(ok.exf D List.mem_cons_self).2 _ _ h
 have loop:codeAny (model X.prog X.w) X.A (.compLoop (.ListComp elt [⟨tg,iter,[],0⟩] sc pos) 0 (.ref it) (.ref D) (compEnvC sc (takes X.env.cells sc.names []) C X.env)) (RR (.ref D) C) { s2 with heap:=h₁,toks:=s2.toks + ([]:List (Str×Value)).length }:=by
  refine uG (fun n s'=>∃ (i:Nat) (ys:List V) (us:List Value) (σc:St) (H':Hp),Inv (bX X sc Nc { s2 with heap:=hp } H2 C (D::fp) (X.pn++pins)) [(D,cm us us.length)] σc H' s'∧Vals ys us∧tn i s'.heap∧(∀ b∈fp,H' b=none)∧W i n ys σc H')
   ?_ m0 ⟨0,[],[],_,H2,J0,.nil,T.keep _ _ _ st2 (fun b _ o e=>old b o (up b o e)),fun b hb=>(f2 b hb).1,w0⟩
  rintro n s3 ⟨i,ys,us,σ3,H3,I3',rv,st3,fr3,w3⟩
  obtain⟨hsz,hcase⟩:=turn i n ys σ3 H3 w3
  rcases hcase with ⟨stop,qn⟩ | ⟨go,step⟩
  ·refine thn (T.done (bX X sc Nc { s2 with heap:=hp } H2 C (D::fp) (X.pn++pins)) rfl rfl rfl hc i _ s3 σ3 H3 _ I3' (fpY fr3) st3 stop) fun r s4 ⟨hr,I4⟩=>?_
   subst hr
   obtain⟨pD,pH,_,_,_⟩:=I4.pin (D,cm us us.length) (List.mem_append_right _ List.mem_cons_self)
   obtain⟨mC',hnC,_⟩:=I4.loc
   have un:Un (frs X.stack) fp H2 (upd H3 D (.lst ys)) s2.heap s4.heap:=by
    have u0:Un (frs X.stack) (D::fp) H2 H3 hp s4.heap:=I4.base
    have neD:∀ {b:Addr} {o:Obj},s2.heap.get? b=some o→b≠D:=fun e=>by rw[← hDe];exact Nat.ne_of_lt (Heap.lt_size e)
    have nx:∀ {b:Addr} {o:Obj},s2.heap.get? b=some o→b∉fp→b∉D::fp:=fun e h1 h2=>by
     rcases List.mem_cons.mp h2 with z | z
     ·exact neD e z
     ·exact h1 z
    have neT:∀ {b:Addr} {o:HO},H2 b=some o→b≠D:=fun e z=>by rw[z,hD0] at e;cases e
    exact⟨fun b o e n hb hx=>u0.keep b o (up b o e) n hb (nx e hx),fun b o e n hb hx=>u0.slot b o (up b o e) n hb (nx e hx),fun b o e n hx=>by rw[aj (neD e)];exact u0.free b o (up b o e) n (nx e hx),
     fun b o e hx=>u0.there b o (up b o e) (nx e hx),fun b xs e=>by rw[aj (neT e)];exact u0.tups b xs e,fun b o xs e=>by rw[aj (neT e)];exact u0.frzs b o xs e,fun b ps e=>by rw[aj (neT e)];exact u0.tbls b ps e⟩
   have hok:HOk X.prog X.w (upd H3 D (.lst ys)) s4.heap:=fun b u e=>by
    by_cases hb:b=D
    ·subst hb
     rw[aC] at e
     cases e
     exact⟨Nat.le_of_lt hsz,us,us.length,rv,pD⟩
    ·rw[aj hb] at e
     refine(I4.hok b u e).rL (fun c v _ q=>q) (fun c q=>?_) fun c xs q=>?_
     ·rw[aj (fun z=>by rw[z] at q;rw[show H3 D=none from pH] at q;cases q)];exact q
     ·rw[aj (fun z=>by rw[z] at q;rw[show H3 D=none from pH] at q;cases q)];exact q
   have I5:Inv X pins σ (upd H3 D (.lst ys)) s4:=I2.Eu I4.os un hok I4.bare fun b hb=>⟨(f2 b hb).2.2.2.1,(f2 b hb).2.1,(f2 b hb).2.2.2.2.1,(f2 b hb).2.2.2.2.2⟩
   refine hRR D C s4 _ I5 ⟨mC',hnC⟩ ?_ (qn D pH)
   have hC2:s2.heap.objs.size≤C:=by rw[hDe,← hCe,hCs];exact Nat.le_succ _
   refine I2.p4 hC2 ?_
   rw[aj (Ne.symm hDC)]
   exact I4.free
  ·refine thn (T.item (bX X sc Nc { s2 with heap:=hp } H2 C (D::fp) (X.pn++pins)) rfl rfl rfl hc i _ s3 σ3 H3 _ I3' (fpY fr3) st3 go) fun r s4 ⟨u,hr,h4⟩=>?_
   subst hr
   refine thn h4 fun _ s5 ⟨x,H5,I5,r5,y5,st5,fr5⟩=>?_
   have I5':=I5.pinned (fpY fr5) (T.obj _ _ st5)
   refine thn (hg _ _ _ _ _ _ s5 σ3 H5 x u _ I5' r5 (step x H5 y5)) fun _ s6 ⟨σ6,H6,I6,N,hN,q6⟩=>?_
   refine thn (he _ _ _ _ _ _ s6 σ6 H6 _ I6 q6) fun y s7 ⟨yv,H7,I7,r7,q7⟩=>?_
   obtain⟨pD,pH,pL,pF,pc⟩:=I7.pin (D,cm us us.length) (List.mem_append_right _ (List.mem_append_left _ List.mem_cons_self))
   have hlen:us.length=ys.length:=rv.length.symm
   refine append_at (hsz:=by rw[List.size_toArray,hlen];exact Nat.le_of_lt hsz) pD fun h8 sb8 hD8=>?_
   obtain⟨m',hm,w8⟩:=hN yv H7 q7
   have st7:tn (i + 1) s7.heap:=T.keep _ _ _ st5 fun b hb o e=>(I7.pin (b,o) (List.mem_append_right _ (List.mem_append_right _ (fK hb e)))).1
   have fr7:∀ b∈fp,H7 b=none:=fun b hb=>by
    obtain⟨o,e,d⟩:=T.obj _ _ st5 b hb
    exact(I7.pin (b,o) (List.mem_append_right _ (List.mem_append_right _ (fK hb e)))).2.1
   have I7n:Inv (bX X sc Nc { s2 with heap:=hp } H2 C (D::fp) (X.pn++pins)) [] σ6 H7 s7:=I7.jx fun p z=>absurd z (by simp)
   have I8:Inv (bX X sc Nc { s2 with heap:=hp } H2 C (D::fp) (X.pn++pins)) [] σ6 H7 { s7 with heap:=h8 }:=
    I7n.turned (t':=s7.toks) (it:=D) (fun b o hb e=>(sb8.2 b hb).trans e) pH pL (.inl List.mem_cons_self) (fun x c e=>(ok.exf D List.mem_cons_self).2 x c e) fun p hp'=>by
     have hp2:p∈X.pn++pins:=by simpa using hp'
     exact fD.2.2.2.2.2 p hp2
   have e8:h8.get? D=some (cm (us++[y]) (us++[y]).length):=by
    rw[hD8]
    simp
   refine⟨m',hm,i + 1,ys++[yv],us++[y],σ6,H7,I8.jx fun p z=>?_,rv.append (.cons r7 .nil),T.keep _ _ _ st7 fun b hb o e=>(sb8.2 b fun z=>hDfp (by rw[← z];exact hb)).trans e,fr7,w8⟩
   have e:p=(D,cm (us++[y]) (us++[y]).length):=by simpa using z
   subst e
   exact⟨e8,pH,pL,pF,fun v z=>by cases z⟩
 exact codeAny_compStart_list loop (wpAny_mono (T.self X.A 0 _ _ (fun _ _=>False) (T.keep _ _ _ st2 (fun b _ o e=>old b o (up b o e))) loop) (fun _ _ h=>h) fun _ _ h=>h.elim)
theorem uK {pins:List (Addr×Obj)} {σ:St} {H:Hp} {s:Shared} {sc:Scope} {Nc:List Str} {fr:List (Option Nat)} (B:Blk X.N X.env.scope sc Nc fr) (I:Inv X pins σ H s):closureFor sc X.env=pure (takes X.env.cells sc.names []):=
 rR fun y hy hf=>I.ok.has y.1 (B.free y hy hf)
theorem CP {elt iter tg:Expr} {sc:Scope} {pos:Pos} {Nc:List Str} {fr:List (Option Nat)} {wi:TI} {g:TG} {te:TE} (hc:X.calm=true) (hi:PI X tg iter wi) (B:Blk X.N X.env.scope sc Nc fr)
  (hg:∀ s₀ H₀ C ex pn,PG (bX X sc Nc s₀ H₀ C ex pn) tg g) (he:∀ s₀ H₀ C ex pn,PE (bX X sc Nc s₀ H₀ C ex pn) elt te) (hs:∀ x,foldedSetIterable iter X.env x=pure x:=by intro _;rfl) :
  PE X (.ListComp elt [⟨tg,iter,[],0⟩] sc pos) (sf fr wi g te):=by
 intro pins s σ H Q I h
 rw[eval_ListComp]
 refine wpAny_comprehension_free (use:=none) rfl hs (uK B I) B.kind B.locs (thn (hi pins s σ H _ I h) fun v s1 h1=>thn h1 fun itv s2 h2=>?_)
 obtain⟨it,fp,tn,J,H2,e,I2,T,st2,f2,cw⟩:=h2
 subst e
 refine qT (RR:=fun acc C=>compPost (model X.prog X.w) X.A X.xe none (EP X pins σ Q) acc C) B hc hg he I2 T st2 f2 cw fun D C s' H' I' hn fC q=>?_
 obtain⟨m,hn⟩:=hn
 exact⟨m,hn,fun h' sb=>⟨.ref D,H',I'.turned (t':=s'.toks) (fun b o hb e=>(sb.2 b hb).trans e) fC.1 fC.2.1 fC.2.2.2.1 fC.2.2.2.2.1 fC.2.2.2.2.2,rfl,q⟩⟩
theorem qv {i:Nat} {x:Str} {px spos:Pos} {elt iter tg:Expr} {sc:Scope} {pos:Pos} {Nc:List Str} {fr:List (Option Nat)} {wi:TI} {g:TG} {te:TE} (hN:X.N.Nodup) (hi':X.N[i]?=some x) (hx:X.env.scope.names.lookup x=some .local)
  (hc:X.calm=true) (hi:PI X tg iter wi) (B:Blk X.N X.env.scope sc Nc fr)
  (hg:∀ s₀ H₀ C ex pn,PG (bX X sc Nc s₀ H₀ C ex pn) tg g) (he:∀ s₀ H₀ C ex pn,PE (bX X sc Nc s₀ H₀ C ex pn) elt te)
  (hsw:swapsWith (.ListComp elt [⟨tg,iter,[],0⟩] sc pos) (some (.Name x px)) spos.line X.env=pure true:=by rfl) (hs:∀ x,foldedSetIterable iter X.env x=pure x:=by intro _;rfl) :
  PS X (.Assign [.Name x px] (.ListComp elt [⟨tg,iter,[],0⟩] sc pos) spos) (pN (sf fr wi g te) (nE i)):=by
 intro pins s σ H D I h
 rw[exec_Assign_Name_used _ _ _ _ hsw]
 refine wpAny_bind (wpAny_standAt (wpAny_bind ?_))
 show wpAny _ X.A (do let _ ← comprehension (.ListComp elt [⟨tg,iter,[],0⟩] sc pos) sc X.env _ (newList []) false (eval iter X.env) (some (assign (.Name x px) X.env))) _ _ s
 refine wpAny_bind (wpAny_mono (wpAny_comprehension_free (use:=some (assign (.Name x px) X.env)) (Q:=fun _ s'=>SP X pins D .next s') rfl hs (uK B I) B.kind B.locs
  (thn (hi pins s σ H _ I h) fun v s1 h1=>thn h1 fun itv s2 h2=>?_)) (fun _ s' hq=>wpAny_pure (wpAny_pure hq)) fun _ _ e=>e)
 obtain⟨it,fp,tn,J,H2,e,I2,T,st2,f2,cw⟩:=h2
 subst e
 refine qT (RR:=fun acc C=>compPost (model X.prog X.w) X.A X.xe (some (assign (.Name x px) X.env)) (fun _ s'=>SP X pins D .next s') acc C) B hc hg he I2 T st2 f2 cw fun L C s' H' I' hn fC q=>?_
 obtain⟨m,hn⟩:=hn
 show wpAny _ X.A (assign (.Name x px) X.env (.ref L)) _ _ _
 refine wpAny_assign_Name (sj I' hN hi' (.inl hx) (v:=.ref L) rfl (fun s3 I3 hs3=>?_) (.inr hx))
 obtain⟨a,sb,ha⟩:=hs3
 have hCa:C≠a:=by
  rcases ha with e | e
  ·rw[e];exact fC.2.1
  ·exact fun z=>fC.2.2.2.2.1 _ _ e (by rw[z])
 exact⟨m,hn.sameBut sb hCa,fun h' sb'=>⟨_,H',I3.turned (t':=s3.toks) (fun b o hb e=>(sb'.2 b hb).trans e) fC.1 fC.2.1 fC.2.2.2.1 fC.2.2.2.2.1 fC.2.2.2.2.2,q⟩⟩
end
end L2
namespace L2
open PySem PySem.Spec PyProof.Rows
section
variable {X:Cx}
theorem wb:∀ {bs:List Bool} {us:List Value},Vals (bs.map V.bl) us→LSm.BoolsAre us bs
 | [],_,.nil=>.nil
 | _::_,_,.cons r t=>by
  obtain rfl:=(show _=Value.bool _ from r)
  exact .cons _ (wb t)
theorem zE (hc:X.calm=true):ek X (.builtin "all") (fun xs H Q=>∃ (p:Addr) (bs:List Bool),xs=[.ref p]∧SqL X.K H p (bs.map V.bl)∧Q (.bl (bs.all id)) H):=by
 intro pins s σ H xs us Q I r h
 obtain⟨p,bs,rfl,hq,q⟩:=h
 obtain⟨u,rfl,ru⟩:=vals1 r
 cases ru
 obtain⟨its,rv,pl,hz⟩:=I.list hq
 have hb:=wb rv
 have hl:=pl.isList
 have hlt:p < s.heap.objs.size:=by obtain⟨_,e,_⟩:=hl;exact Heap.lt_size e
 refine call_all_walk (wpAny_pyIter_list hl ⟨s.heap.objs.size,[s.heap.objs.size,p],[s.heap.objs.size],its.toArray.size,_,_,fun i=>(bs[i]?).getD true,rfl,Walks.list (A:=X.A.in1) (I.ok.hd hc) _ p (Nat.ne_of_lt hlt) its.toArray,⟨⟨_,Heap.get?_push_size _ rfl,rfl,rfl⟩,hl.push _⟩,
  fun i v s' Q' E' hP hQ=>?_,fun h' tk hk=>?_⟩)
 ·obtain⟨b,e,rfl⟩:=hb.get i v (by simpa using hP)
  simp only[e,Option.getD_some] at hQ
  exact wpAny_truthy_bool hQ
 ·have e:((List.range its.toArray.size).all fun i=>(bs[i]?).getD true)=bs.all id:=by rw[List.size_toArray,hb.length,LSm.range_all bs]
  rw[e]
  exact⟨.bl _,H,I.kept (LSm.kept_iter hk),rfl,q⟩
structure jT (K:PySem.W.Frag):Prop where
 bb:PySem.W.kitOne K (.type "bool") (.type "bool")=some true
 bi:PySem.W.kitOne K (.type "bool") (.type "int")=some true
 bl:PySem.W.kitOne K (.type "bool") (.type "list")=some false
 bt:PySem.W.kitOne K (.type "bool") (.type "tuple")=some false
 ib:PySem.W.kitOne K (.type "int") (.type "bool")=some false
 ii:PySem.W.kitOne K (.type "int") (.type "int")=some true
 il:PySem.W.kitOne K (.type "int") (.type "list")=some false
 it:PySem.W.kitOne K (.type "int") (.type "tuple")=some false
 nb:PySem.W.kitOne K (.type "NoneType") (.type "bool")=some false
 ni:PySem.W.kitOne K (.type "NoneType") (.type "int")=some false
 nl:PySem.W.kitOne K (.type "NoneType") (.type "list")=some false
 nt:PySem.W.kitOne K (.type "NoneType") (.type "tuple")=some false
 sb:PySem.W.kitOne K (.type "str") (.type "bool")=some false
 si:PySem.W.kitOne K (.type "str") (.type "int")=some false
 sl:PySem.W.kitOne K (.type "str") (.type "list")=some false
 st:PySem.W.kitOne K (.type "str") (.type "tuple")=some false
 lb:PySem.W.kitOne K (.type "list") (.type "bool")=some false
 li:PySem.W.kitOne K (.type "list") (.type "int")=some false
 ll:PySem.W.kitOne K (.type "list") (.type "list")=some true
 lt:PySem.W.kitOne K (.type "list") (.type "tuple")=some false
 tb:PySem.W.kitOne K (.type "tuple") (.type "bool")=some false
 ti:PySem.W.kitOne K (.type "tuple") (.type "int")=some false
 tl:PySem.W.kitOne K (.type "tuple") (.type "list")=some false
 tt:PySem.W.kitOne K (.type "tuple") (.type "tuple")=some true
 db:PySem.W.kitOne K (.type "dict") (.type "bool")=some false
 di:PySem.W.kitOne K (.type "dict") (.type "int")=some false
 dl:PySem.W.kitOne K (.type "dict") (.type "list")=some false
 dt:PySem.W.kitOne K (.type "dict") (.type "tuple")=some false
inductive Kn (H:Hp):V→Prop where
 | non:Kn H .non
 | bl (b:Bool):Kn H (.bl b)
 | int (i:Int):Kn H (.int i)
 | str (x:Str):Kn H (.str x)
 | lst {a:Addr} {xs:List V} (e:H a=some (.lst xs)):Kn H (.ref a)
 | tup {a:Addr} {xs:List V} (e:H a=some (.tup xs)):Kn H (.ref a)
 | dK {a:Addr} {kvs:List (Key×V)} (e:H a=some (.dK kvs)):Kn H (.ref a)
def isB:V→Bool
 | .bl _=>true
 | _=>false
def isI:V→Bool
 | .bl _=>true
 | .int _=>true
 | _=>false
def isL (H:Hp):V→Bool
 | .ref a=>match H a with
  | some (.lst _)=>true
  | _=>false
 | _=>false
def isT (H:Hp):V→Bool
 | .ref a=>match H a with
  | some (.tup _)=>true
  | _=>false
 | _=>false
theorem yn {H:Hp} {a:Addr} {xs:List V} (h:H a=some (.lst xs)):isL H (.ref a)=true:=by simp only[isL,h]
theorem ym {H:Hp} {a:Addr} {xs:List V} (h:H a=some (.tup xs)):isL H (.ref a)=false:=by simp only[isL,h]
theorem FO {H:Hp} {a:Addr} {xs:List (Key×V)} (h:H a=some (.dK xs)):isL H (.ref a)=false:=by simp only[isL,h]
theorem aG {pins:List (Addr×Obj)} {s:Shared} {σ:St} {H:Hp} {x:V} {c:String} {us:List Value} {t:Value} {b b':Bool} {Q:VK} (I:Inv X pins σ H s) (r:Vals [x,.ty c] us) (ty:oX X.K H x t) (e:PySem.W.kitOne X.K t (.type c)=some b) (eb:b'=b) (q:Q (.bl b') H) :
  wpAny (model X.prog X.w) X.A (call (.builtin "isinstance") us) (EP X pins σ Q) X.xe s:=by
 obtain⟨u,w',rfl,ru,rw'⟩:=vals2 r
 obtain rfl:w'=Value.type c:=rw'
 subst eb
 exact zu I ru ty e fun tk=>⟨.bl b',H,I.tok _,rfl,q⟩
theorem BQ (F:jT X.K):ek X (.builtin "isinstance") (fun xs H Q=>∃ x,xs=[x,.ty "bool"]∧Kn H x∧Q (.bl (isB x)) H):=by
 intro pins s σ H xs us Q I r h
 obtain⟨x,rfl,k,q⟩:=h
 cases k with
 | non=>exact aG I r .non F.nb rfl q
 | bl b=>exact aG I r (.bl b) F.bb rfl q
 | int i=>exact aG I r (.int i) F.ib rfl q
 | str y=>exact aG I r (.str y) F.sb rfl q
 | lst e=>exact aG I r (.lst e) F.lb rfl q
 | tup e=>exact aG I r (.tup e) F.tb rfl q
 | dK e=>exact aG I r (.dK e) F.db rfl q
theorem BP (F:jT X.K):ek X (.builtin "isinstance") (fun xs H Q=>∃ x,xs=[x,.ty "int"]∧Kn H x∧Q (.bl (isI x)) H):=by
 intro pins s σ H xs us Q I r h
 obtain⟨x,rfl,k,q⟩:=h
 cases k with
 | non=>exact aG I r .non F.ni rfl q
 | bl b=>exact aG I r (.bl b) F.bi rfl q
 | int i=>exact aG I r (.int i) F.ii rfl q
 | str y=>exact aG I r (.str y) F.si rfl q
 | lst e=>exact aG I r (.lst e) F.li rfl q
 | tup e=>exact aG I r (.tup e) F.ti rfl q
 | dK e=>exact aG I r (.dK e) F.di rfl q
theorem BO (F:jT X.K):ek X (.builtin "isinstance") (fun xs H Q=>∃ x,xs=[x,.ty "list"]∧Kn H x∧Q (.bl (isL H x)) H):=by
 intro pins s σ H xs us Q I r h
 obtain⟨x,rfl,k,q⟩:=h
 cases k with
 | non=>exact aG I r .non F.nl rfl q
 | bl b=>exact aG I r (.bl b) F.bl rfl q
 | int i=>exact aG I r (.int i) F.il rfl q
 | str y=>exact aG I r (.str y) F.sl rfl q
 | lst e=>exact aG I r (.lst e) F.ll (yn e) q
 | tup e=>exact aG I r (.tup e) F.tl (ym e) q
 | dK e=>exact aG I r (.dK e) F.dl (FO e) q
mutual
inductive Dt (K:PySem.W.Frag) (H:Hp):V→PyData→Prop where
 | non:Dt K H .non .none
 | bl (b:Bool):Dt K H (.bl b) (.bool b)
 | int (i:Int):Dt K H (.int i) (.int i)
 | str (x:Str):Dt K H (.str x) (.str x)
 | lst {a:Addr} {xs:List V} {ds:List PyData}:SqL K H a xs→fG K H xs ds→Dt K H (.ref a) (.list ds)
 | tup {a:Addr} {xs:List V} {ds:List PyData}:SqT K H a xs→fG K H xs ds→Dt K H (.ref a) (.tuple ds)
inductive fG (K:PySem.W.Frag) (H:Hp):List V→List PyData→Prop where
 | nil:fG K H [] []
 | cons {x:V} {xs:List V} {d:PyData} {ds:List PyData}:Dt K H x d→fG K H xs ds→fG K H (x::xs) (d::ds)
end
mutual
theorem Dt.reads {pins:List (Addr×Obj)} {σ:St} {H:Hp} {s:Shared} (I:Inv X pins σ H s):∀ {x:V} {d:PyData} {u:Value},Dt X.K H x d→RelV x u→∃ as,Reads s.heap u d as
 | _,_,_,.non,r=>by cases r;exact⟨_,.none⟩
 | _,_,_,.bl b,r=>by cases r;exact⟨_,.bool b⟩
 | _,_,_,.int i,r=>by obtain⟨t,rfl⟩:=r;exact⟨_,.int i t⟩
 | _,_,_,.str y,r=>by obtain⟨t,rfl⟩:=r;exact⟨_,.str y t⟩
 | _,_,_,.lst hq hs,r=>by
  cases r
  obtain⟨its,rv,⟨o,n,e1,e2,e3,e4⟩,hz⟩:=I.list hq
  obtain⟨as,h⟩:=fG.reads I hs rv
  exact⟨_,.list e1 e2 e4 (by simpa using h)⟩
 | _,_,_,.tup hq hs,r=>by
  cases r
  obtain⟨its,rv,⟨o,e1,e2,n,e4⟩,hz⟩:=I.tuple hq
  obtain⟨as,h⟩:=fG.reads I hs rv
  exact⟨_,.tuple e1 e2 e4 (by simpa using h)⟩
theorem fG.reads {pins:List (Addr×Obj)} {σ:St} {H:Hp} {s:Shared} (I:Inv X pins σ H s):∀ {xs:List V} {ds:List PyData} {us:List Value},fG X.K H xs ds→Vals xs us→∃ as,ReadsAll s.heap us ds as
 | _,_,_,.nil,.nil=>⟨_,.nil⟩
 | _,_,_,.cons h1 h2,.cons r1 r2=>by
  obtain⟨as,a⟩:=Dt.reads I h1 r1
  obtain⟨bs,b⟩:=fG.reads I h2 r2
  exact⟨_,.cons a b⟩
end
structure Shw (d:PyData):Prop where
 sh:d.showable=true
 nd:d.hasDict=false
 dp:d.depth≤20
 sz:d.shown.length≤sizeLine
theorem xP {k:Nat} (hr:dQ k X.A):ek X (.builtin "repr") (fun xs H Q=>∃ a d,xs=[.ref a]∧Dt X.K H (.ref a) d∧Shw d∧Q (.str d.shown) H):=by
 intro pins s σ H xs us Q I r h
 obtain⟨a,d,rfl,hd,S,q⟩:=h
 obtain⟨u,rfl,ru⟩:=vals1 r
 cases ru
 obtain⟨as,rd⟩:=hd.reads I rfl
 exact repr_of_reads' rd S.sh (PyData.noDict_hsm S.nd) hr.gd (by have:=hr.units;have:=S.dp;omega) (fun _ _ e=>e) (fun h' u tk hk=>⟨.str d.shown,H,I.kept hk,⟨_,rfl⟩,q⟩) S.sz
mutual
theorem Dt.same {K:PySem.W.Frag} {H H':Hp} (e:aP H H'):∀ {x:V} {d:PyData},Dt K H x d→Dt K H' x d
 | _,_,.non=>.non
 | _,_,.bl b=>.bl b
 | _,_,.int i=>.int i
 | _,_,.str y=>.str y
 | _,_,.lst hq hs=>.lst (e.seq hq) (fG.same e hs)
 | _,_,.tup hq hs=>by
  refine .tup ?_ (fG.same e hs)
  rcases hq with (h | ⟨o,h⟩) | h
  ·exact .inl (.inl (e _ _ h))
  ·exact .inl (.inr ⟨o,e _ _ h⟩)
  ·exact .inr h
theorem fG.same {K:PySem.W.Frag} {H H':Hp} (e:aP H H'):∀ {xs:List V} {ds:List PyData},fG K H xs ds→fG K H' xs ds
 | _,_,.nil=>.nil
 | _,_,.cons h1 h2=>.cons (Dt.same e h1) (fG.same e h2)
end
end
end L2
namespace L2
open PySem PySem.Spec PyProof.Rows
section
variable {X:Cx} {pins:List (Addr×Obj)} {σ:St} {H:Hp} {s:Shared}
theorem Inv.moved {ch:List Addr} {h':Heap} {t':Nat} (I:Inv X pins σ H s) (hch:∀ b∈ch,fX X pins H b) (hk:∀ b o,b∉ch→s.heap.get? b=some o→h'.get? b=some o):Inv X pins σ H { s with heap:=h',toks:=t' }:=by
 have nt:∀ {b:Addr} {u:HO},H b=some u→b∉ch:=fun e hb=>by rw[(hch _ hb).1] at e;cases e
 refine I.step (g':=s.gens) (d':=s.drawn) (ch:=ch) (fun b hb=>⟨(hch b hb).2.2.2.1,(hch b hb).2.1,(hch b hb).2.2.2.2.1,(hch b hb).2.2.2.2.2⟩) (fun b o _ _ hc e _=>hk b o hc e) (fun b o _ _ hc e _=>⟨o.slots,hk b o hc e⟩) (fun _ _ _ _ n=>n)
  (fun b o hc e=>⟨o,hk b o hc e⟩) (fun _ _ e=>e) (fun _ _ _ e=>e) (fun b ps e=>⟨#[],by rw[e];simp⟩) (fun m hm=>?_) (fun b u e=>?_) I.bare
 ·obtain⟨o,es,ep,ho,r⟩:=hm
  exact⟨o,es,ep,hk _ o (fun hb=>(hch _ hb).2.1 rfl) ho,r⟩
 ·exact(I.hok b u e).rL (fun c v hc q=>hk c v (by rcases hc with z | z <;> first | (rw[z];exact nt e) | exact nt z) q) (fun _ q=>q) fun _ _ q=>q
theorem Inv.t7 {ch:List Addr} {T:Addr} {x y:V} {u v:Value} {h':Heap} {t':Nat} (I:Inv X pins σ H s) (hch:∀ b∈ch,fX X pins H b) (hT:s.heap.objs.size≤T)
  (hk:∀ b o,b∉ch→s.heap.get? b=some o→h'.get? b=some o) (ht:IsTup h' T #[u,v]) (ru:RelV x u) (rv:RelV y v):Inv X pins σ (upd H T (.tup [x,y])) { s with heap:=h',toks:=t' }:=by
 have nt:∀ {b:Addr} {u:HO},H b=some u→b∉ch:=fun e hb=>by rw[(hch _ hb).1] at e;cases e
 have fT:H T=none:=I.hok.fresh hT
 have neT:∀ {b:Addr} {o:Obj},s.heap.get? b=some o→b≠T:=fun e=>Nat.ne_of_lt (Nat.lt_of_lt_of_le (Heap.lt_size e) hT)
 have neH:∀ {b:Addr} {u:HO},H b=some u→b≠T:=fun e z=>by rw[z,fT] at e;cases e
 refine I.step (g':=s.gens) (d':=s.drawn) (ch:=ch) (fun b hb=>⟨(hch b hb).2.2.2.1,(hch b hb).2.1,(hch b hb).2.2.2.2.1,(hch b hb).2.2.2.2.2⟩) (fun b o _ _ hc e _=>hk b o hc e) (fun b o _ _ hc e _=>⟨o.slots,hk b o hc e⟩) (fun b o _ e n=>by rw[aj (neT e)];exact n)
  (fun b o hc e=>⟨o,hk b o hc e⟩) (fun b xs e=>by rw[aj (neH e)];exact e) (fun b o xs e=>by rw[aj (neH e)];exact e) (fun b ps e=>⟨#[],by rw[aj (neH e),e];simp⟩) (fun m hm=>?_) (fun b o e=>?_) I.bare
 ·obtain⟨o,es,ep,ho,r⟩:=hm
  exact⟨o,es,ep,hk _ o (fun hb=>(hch _ hb).2.1 rfl) ho,r⟩
 ·by_cases hb:b=T
  ·subst hb
   rw[aC] at e
   cases e
   exact⟨(by show 2≤sizeLine;decide),[u,v],.cons ru (.cons rv .nil),ht⟩
  ·rw[aj hb] at e
   exact(I.hok b o e).rL (fun c w' hc q=>hk c w' (by rcases hc with z | z <;> first | (rw[z];exact nt e) | exact nt z) q) (fun c q=>by rw[aj (neH q)];exact q) fun c xs q=>by rw[aj (neH q)];exact q
end
def Itz (a b:Addr):It:=
 ⟨fun i H=>∃ xs ys x y,H a=some (.lst xs)∧H b=some (.lst ys)∧xs[i]?=some x∧ys[i]?=some y,
  fun i H v H'=>∃ t xs ys x y,H t=none∧H a=some (.lst xs)∧H b=some (.lst ys)∧xs[i]?=some x∧ys[i]?=some y∧v=.ref t∧H'=upd H t (.tup [x,y]),
  fun i H=>∃ xs ys,H a=some (.lst xs)∧H b=some (.lst ys)∧(xs.length≤i∨ys.length≤i)⟩
def Ex (z TI TO i1 i2 l1 l2:Addr) (i:Nat) (h:Heap):Prop:=IsZip h z TI TO .none∧IsPair h TI (.ref i1) (.ref i2)∧(∃ a b,IsPair h TO a b)∧h.IsListIter i1 l1 i∧h.IsListIter i2 l2 i
structure nV (z TI TO i1 i2:Addr):Prop where
 TIz:TI≠z
 TOz:TO≠z
 i1z:i1≠z
 i2z:i2≠z
 TITO:TI≠TO
 TIi1:TI≠i1
 TIi2:TI≠i2
 TOi1:TO≠i1
 TOi2:TO≠i2
 i12:i1≠i2
theorem zU {P:Program} {w:World} {K:PySem.W.Frag} {es:List Expr} {kt:Nat} {tp:Pos} (z TI TO i1 i2 l1 l2:Addr) (D:nV z TI TO i1 i2) :
  Turn P w K (.Tuple es kt tp) (Itz l1 l2) [z,TI,TO,i1,i2] z (Ex z TI TO i1 i2 l1 l2) where
 mem:=by simp
 obj:=fun i h st b hb=>by
  obtain⟨hz,hTI,⟨a,c,hTO⟩,⟨o1,e1,_,d1⟩,⟨o2,e2,_,d2⟩⟩:=st
  simp only[List.mem_cons,List.not_mem_nil,or_false] at hb
  rcases hb with rfl | rfl | rfl | rfl | rfl
  ·exact⟨_,hz,fun v q=>by cases q⟩
  ·exact⟨_,hTI,fun v q=>by cases q⟩
  ·exact⟨_,hTO,fun v q=>by cases q⟩
  ·exact⟨_,e1,fun v q=>by rw[d1] at q;cases q⟩
  ·exact⟨_,e2,fun v q=>by rw[d2] at q;cases q⟩
 keep:=fun i h h' st k=>by
  obtain⟨hz,hTI,⟨a,c,hTO⟩,h1,h2⟩:=st
  exact⟨k z (by simp) _ hz,k TI (by simp) _ hTI,⟨a,c,k TO (by simp) _ hTO⟩,h1.at fun o e=>k i1 (by simp) o e,h2.at fun o e=>k i2 (by simp) o e⟩
 item:=by
  intro X hP hw hK hc i pins s σ H E I hf st hg
  subst hP hw hK
  obtain⟨xs,ys,x,y,ha,hb,hx,hy⟩:=hg
  obtain⟨hz,hTI,⟨a0,b0,hTO⟩,h1,h2⟩:=st
  obtain⟨ia,na,ra,ea,_⟩:=I.lst ha
  obtain⟨ib,nb,rb,eb,_⟩:=I.lst hb
  have nf:∀ b∈[z,TI,TO,i1,i2],H b=none:=fun b hb=>(hf b hb).1
  have ne1:∀ b∈[z,TI,TO,i1,i2],l1≠b:=fun b hb e=>by rw[e,nf b hb] at ha;cases ha
  have ne2:∀ b∈[z,TI,TO,i1,i2],l2≠b:=fun b hb' e=>by rw[e,nf b hb'] at hb;cases hb
  have Z:ZipApart z TI TO i1 i2 l1 l2:=⟨D.TIz,D.TOz,D.i1z,D.i2z,D.TITO,D.TIi1,D.TIi2,D.TOi1,D.TOi2,D.i12,ne1 z (by simp),ne1 TO (by simp),ne1 i1 (by simp),ne1 i2 (by simp),ne2 z (by simp),ne2 TO (by simp),ne2 i1 (by simp),ne2 i2 (by simp)⟩
  obtain⟨u,hu,ru⟩:=ra.get hx
  obtain⟨v,hv,rv⟩:=rb.get hy
  refine wpAny_pyNext_zip_item Z hz hTI hTO h1 h2 (xs:=ia.toArray) (ys:=ib.toArray) ⟨_,ea,rfl,_,rfl⟩ ⟨_,eb,rfl,_,rfl⟩ (x:=u) (y:=v) (by simpa using hu) (by simpa using hv) fun h' a1 a2 a3 a4 a5 a6 hk=>?_
  refine⟨_,rfl,wpAny_letOwnedTupleGo_zip a1 fun h2' hz' hs'=>?_⟩
  have zT:s.heap.objs.size≠z:=Nat.ne_of_gt (Heap.lt_size hz)
  refine⟨.ref s.heap.objs.size,upd H s.heap.objs.size (.tup [x,y]),?_,rfl,⟨_,xs,ys,x,y,I.hok.fresh (Nat.le_refl _),ha,hb,hx,hy,rfl,rfl⟩,?_,fun b hb'=>?_⟩
  ·refine I.t7 (t':=s.toks) (ch:=[z,TO,i1,i2]) (u:=u) (v:=v) (fun b hb'=>hf b (by simp at hb' ⊢;rcases hb' with e | e | e | e <;> simp [e])) (Nat.le_refl _) (fun b o hb' e=>?_) ⟨_,hs'.extBut _ _ zT a5,rfl,_,rfl⟩ ru rv
   simp only[List.mem_cons,List.not_mem_nil,or_false,not_or] at hb'
   exact hs'.extBut b o hb'.1 (hk b o hb'.1 hb'.2.1 hb'.2.2.1 hb'.2.2.2 e)
  ·exact⟨hz',hs'.extBut _ _ D.TIz (hk _ _ D.TIz D.TITO D.TIi1 D.TIi2 hTI),⟨_,_,hs'.extBut _ _ D.TOz a2⟩,a3.extBut hs'.extBut D.i1z,a4.extBut hs'.extBut D.i2z⟩
  ·rw[aj]
   ·exact nf b hb'
   ·have hlt:∃ o,s.heap.get? b=some o:=by
     obtain⟨o1,e1,_⟩:=h1
     obtain⟨o2,e2,_⟩:=h2
     simp only[List.mem_cons,List.not_mem_nil,or_false] at hb'
     rcases hb' with rfl | rfl | rfl | rfl | rfl
     ·exact⟨_,hz⟩
     ·exact⟨_,hTI⟩
     ·exact⟨_,hTO⟩
     ·exact⟨_,e1⟩
     ·exact⟨_,e2⟩
    obtain⟨o,e⟩:=hlt
    exact Nat.ne_of_lt (Heap.lt_size e)
 done:=by
  intro X hP hw hK hc i pins s σ H E I hf st hg
  subst hP hw hK
  obtain⟨xs,ys,ha,hb,hl⟩:=hg
  obtain⟨hz,hTI,⟨a0,b0,hTO⟩,h1,h2⟩:=st
  obtain⟨ia,na,ra,ea,_⟩:=I.lst ha
  obtain⟨ib,nb,rb,eb,_⟩:=I.lst hb
  have nf:∀ b∈[z,TI,TO,i1,i2],H b=none:=fun b hb=>(hf b hb).1
  have ne1:∀ b∈[z,TI,TO,i1,i2],l1≠b:=fun b hb e=>by rw[e,nf b hb] at ha;cases ha
  have ne2:∀ b∈[z,TI,TO,i1,i2],l2≠b:=fun b hb' e=>by rw[e,nf b hb'] at hb;cases hb
  have Z:ZipApart z TI TO i1 i2 l1 l2:=⟨D.TIz,D.TOz,D.i1z,D.i2z,D.TITO,D.TIi1,D.TIi2,D.TOi1,D.TOi2,D.i12,ne1 z (by simp),ne1 TO (by simp),ne1 i1 (by simp),ne1 i2 (by simp),ne2 z (by simp),ne2 TO (by simp),ne2 i1 (by simp),ne2 i2 (by simp)⟩
  have la:=ra.length
  have lb:=rb.length
  refine wpAny_pyNext_zip_end (I.ok.hd hc) Z hz hTI hTO h1 h2 (xs:=ia.toArray) (ys:=ib.toArray) ⟨_,ea,rfl,_,rfl⟩ ⟨_,eb,rfl,_,rfl⟩ ?_ fun h' hk=>⟨rfl,I.moved (t':=s.toks) (ch:=[z,TO,i1,i2]) (fun b hb'=>hf b (by simp at hb' ⊢;rcases hb' with e | e | e | e <;> simp [e])) fun b o hb' e=>?_⟩
  ·rcases hl with hl | hl
   ·left;simp;omega
   ·right;simp;omega
  ·simp only[List.mem_cons,List.not_mem_nil,or_false,not_or] at hb'
   exact hk b o hb'.1 hb'.2.1 hb'.2.2.1 hb'.2.2.2 e
 self:=fun _ _ _ _ _ st h=>wpAny_pyIter_zip st.1 h
section
variable {X:Cx}
def Hu (ta:TA):TI:=fun σ H R=>ta σ H fun vs H1=>∃ (p q:Addr) (xs ys:List V),vs=[.ref p,.ref q]∧H1 p=some (.lst xs)∧H1 q=some (.lst ys)∧R (Itz p q) H1
theorem Fb {a b:Expr} {ta:TA} {es:List Expr} {kt:Nat} {tp p pos:Pos} (hg:Gl X "zip") (hm:X.mg "zip"=none) (ha:PA X [a,b] ta) (hs:starEach [a,b] X.env=[(false,eval a X.env),(false,eval b X.env)]:=by rfl) (hs2:starEach [b] X.env=[(false,eval b X.env)]:=by rfl) :
  PI X (.Tuple es kt tp) (.Call (.Name "zip" p) [a,b] [] pos) (Hu ta):=by
 intro pins s σ H R I h
 refine Call_ (kq I hg hm (by decide +kernel:bootBuiltins "zip"=some (.type "zip")) (PyProof.Rows.callWith_type1 (thn (ha pos pins s σ H _ I h) fun us s1 ⟨vs,H1,I1,r1,q1⟩=>?_) (by rw[hs,hs2]) (by rw[hs2];rfl)))
 obtain⟨l1,l2,xs,ys,e,h1,h2,q⟩:=q1
 subst e
 obtain⟨u,w',rfl,ru,rw'⟩:=vals2 r1
 cases ru
 cases rw'
 obtain⟨ia,na,ra,ea,_⟩:=I1.lst h1
 obtain⟨ib,nb,rb,eb,_⟩:=I1.lst h2
 refine call_zip_2 (xs:=ia.toArray) (ys:=ib.toArray) ⟨_,ea,rfl,_,rfl⟩ ⟨_,eb,rfl,_,rfl⟩ fun h' hz hTI hTO hi1 hi2 hsz hk=>wpAny_pyIter_zip hz ?_
 have I2:Inv X pins σ H1 { s1 with heap:=h' }:=I1.kept (t':=s1.toks) hk
 have lt:∀ i j:Nat,i < j→s1.heap.objs.size + i≠s1.heap.objs.size + j:=fun i j h e=>by omega
 have D:nV (s1.heap.objs.size + 4) (s1.heap.objs.size + 2) (s1.heap.objs.size + 3) s1.heap.objs.size (s1.heap.objs.size + 1):=
  ⟨lt 2 4 (by decide),lt 3 4 (by decide),lt 0 4 (by decide),lt 1 4 (by decide),lt 2 3 (by decide),(lt 0 2 (by decide)).symm,(lt 1 2 (by decide)).symm,(lt 0 3 (by decide)).symm,(lt 1 3 (by decide)).symm,lt 0 1 (by decide)⟩
 refine⟨_,_,_,_,H1,rfl,I2,zU _ _ _ _ _ l1 l2 D,⟨hz,hTI,⟨_,_,hTO⟩,hi1,hi2⟩,fun b hb=>?_,q⟩
 have hge:s1.heap.objs.size≤b:=by
  simp only[List.mem_cons,List.not_mem_nil,or_false] at hb
  rcases hb with rfl | rfl | rfl | rfl | rfl <;> omega
 exact I1.p4 hge (I1.hok.fresh hge)
end
def Ite (a:Addr):It:=
 ⟨fun i H=>∃ xs x,H a=some (.lst xs)∧xs[i]?=some x,
  fun i H v H'=>∃ t xs x,H t=none∧H a=some (.lst xs)∧xs[i]?=some x∧v=.ref t∧H'=upd H t (.tup [.int i,x]),
  fun i H=>∃ xs,H a=some (.lst xs)∧xs.length≤i⟩
def Jp (e it l:Addr) (i:Nat) (h:Heap):Prop:=(∃ old,IsEnum h e it i old)∧h.IsListIter it l i
theorem yV {P:Program} {w:World} {K:PySem.W.Frag} {es:List Expr} {kt:Nat} {tp:Pos} (e it l:Addr) (D:e≠it):Turn P w K (.Tuple es kt tp) (Ite l) [e,it] e (Jp e it l) where
 mem:=by simp
 obj:=fun i h st b hb=>by
  obtain⟨⟨old,he⟩,⟨o1,e1,_,d1⟩⟩:=st
  simp only[List.mem_cons,List.not_mem_nil,or_false] at hb
  rcases hb with rfl | rfl
  ·exact⟨_,he,fun v q=>by cases q⟩
  ·exact⟨_,e1,fun v q=>by rw[d1] at q;cases q⟩
 keep:=fun i h h' st k=>by
  obtain⟨⟨old,he⟩,h1⟩:=st
  exact⟨⟨old,k e (by simp) _ he⟩,h1.at fun o e=>k it (by simp) o e⟩
 item:=by
  intro X hP hw hK hc i pins s σ H E I hf st hg
  subst hP hw hK
  obtain⟨xs,x,ha,hx⟩:=hg
  obtain⟨⟨old,he⟩,h1⟩:=st
  obtain⟨ia,na,ra,ea,_⟩:=I.lst ha
  have nf:∀ b∈[e,it],H b=none:=fun b hb=>(hf b hb).1
  obtain⟨u,hu,ru⟩:=ra.get hx
  refine wpAny_pyNext_enum_item he h1 (items:=ia.toArray) ⟨_,ea,rfl,_,rfl⟩ (x:=u) (by simpa using hu) D fun h' a1 a2 a3 a4 hk=>?_
  refine⟨_,rfl,wpAny_letOwnedTupleGo_enum a1 fun h2' he' hs'=>?_⟩
  have eT:s.heap.objs.size≠e:=Nat.ne_of_gt (Heap.lt_size he)
  refine⟨.ref s.heap.objs.size,upd H s.heap.objs.size (.tup [.int i,x]),?_,rfl,⟨_,xs,x,I.hok.fresh (Nat.le_refl _),ha,hx,rfl,rfl⟩,?_,fun b hb'=>?_⟩
  ·refine I.t7 (t':=s.toks + 1) (ch:=[e,it]) (u:=.int i s.toks) (v:=u) hf (Nat.le_refl _) (fun b o hb' q=>?_) ⟨_,hs'.extBut _ _ eT a3,rfl,_,rfl⟩ ⟨_,rfl⟩ ru
   simp only[List.mem_cons,List.not_mem_nil,or_false,not_or] at hb'
   exact hs'.extBut b o hb'.1 (hk b o hb'.1 hb'.2 q)
  ·exact⟨⟨_,by simpa using he'⟩,a2.extBut hs'.extBut (Ne.symm D)⟩
  ·rw[aj]
   ·exact nf b hb'
   ·have hlt:∃ o,s.heap.get? b=some o:=by
     obtain⟨o1,e1,_⟩:=h1
     simp only[List.mem_cons,List.not_mem_nil,or_false] at hb'
     rcases hb' with rfl | rfl
     ·exact⟨_,he⟩
     ·exact⟨_,e1⟩
    obtain⟨o,q⟩:=hlt
    exact Nat.ne_of_lt (Heap.lt_size q)
 done:=by
  intro X hP hw hK hc i pins s σ H E I hf st hg
  subst hP hw hK
  obtain⟨xs,ha,hl⟩:=hg
  obtain⟨⟨old,he⟩,h1⟩:=st
  obtain⟨ia,na,ra,ea,_⟩:=I.lst ha
  have la:=ra.length
  exact wpAny_pyNext_enum_end (I.ok.hd hc) he h1 (items:=ia.toArray) ⟨_,ea,rfl,_,rfl⟩ (by simp;omega) fun h' hk=>⟨rfl,I.moved (t':=s.toks) (ch:=[it]) (fun b hb'=>hf b (by simp at hb' ⊢;simp [hb'])) fun b o hb' q=>hk b o (fun z=>hb' (by simp [z])) q⟩
 self:=fun _ _ _ _ _ st h=>by obtain⟨⟨old,he⟩,_⟩:=st;exact wpAny_pyIter_enum he h
section
variable {X:Cx}
def D_ (ta:TA):TI:=fun σ H R=>ta σ H fun vs H1=>∃ (p:Addr) (xs:List V),vs=[.ref p]∧H1 p=some (.lst xs)∧R (Ite p) H1
theorem CM {a:Expr} {ta:TA} {es:List Expr} {kt:Nat} {tp p pos:Pos} (hg:Gl X "enumerate") (hm:X.mg "enumerate"=none) (ha:PA X [a] ta) (hs:starEach [a] X.env=[(false,eval a X.env)]:=by rfl) :
  PI X (.Tuple es kt tp) (.Call (.Name "enumerate" p) [a] [] pos) (D_ ta):=by
 intro pins s σ H R I h
 refine Call_ (kq I hg hm (by decide +kernel:bootBuiltins "enumerate"=some (.type "enumerate")) (PyProof.Rows.callWith_type1 (thn (ha pos pins s σ H _ I h) fun us s1 ⟨vs,H1,I1,r1,q1⟩=>?_) hs rfl))
 obtain⟨l,xs,e,h1,q⟩:=q1
 subst e
 obtain⟨u,rfl,ru⟩:=vals1 r1
 cases ru
 obtain⟨ia,na,ra,ea,_⟩:=I1.lst h1
 refine call_enumerate_1 ea fun h' he hi hsz hk=>wpAny_pyIter_enum he ?_
 have I2:Inv X pins σ H1 { s1 with heap:=h' }:=I1.kept (t':=s1.toks) hk
 refine⟨_,_,_,_,H1,rfl,I2,yV _ _ l (Nat.succ_ne_self _),⟨⟨_,by simpa using he⟩,hi⟩,fun b hb=>?_,q⟩
 have hge:s1.heap.objs.size≤b:=by
  simp only[List.mem_cons,List.not_mem_nil,or_false] at hb
  rcases hb with rfl | rfl <;> omega
 exact I1.p4 hge (I1.hok.fresh hge)
def kf (xs:List V) (lo hi st:Option Int):List V:=
 (sliceRange (sliceBounds lo hi st xs.length).1 (sliceBounds lo hi st xs.length).2.1 (sliceBounds lo hi st xs.length).2.2).filterMap (xs[·]?)
theorem Vals.places:∀ {xs:List V} {us:List Value},Vals xs us→∀ js:List Nat,Vals (js.filterMap (xs[·]?)) (js.filterMap (us[·]?))
 | _,_,_,[]=>.nil
 | xs,us,h,j::js=>by
  have ih:=Vals.places h js
  cases hn:xs[j]? with
  | some x=>
   obtain⟨u,hu,r⟩:=h.get hn
   simp only[List.filterMap_cons,hn,hu]
   exact .cons r ih
  | none=>
   have hv:=h.none_of hn
   simp only[List.filterMap_cons,hn,hv]
   exact ih
def GF (K:PySem.W.Frag) (te:TE) (tl th ts:TO):TE:=fun σ H Q=>te σ H fun x H1=>tl σ H1 fun l H2=>th σ H2 fun u H3=>ts σ H3 fun k H4=>k≠some 0∧∃ a xs,x=.ref a∧SqL K H4 a xs∧∀ p,H4 p=none→Q (.ref p) (upd H4 p (.lst (kf xs l u k)))
theorem y_ {e:Expr} {te:TE} {lo hi:Option Expr} {st:Expr} {tl th ts:TO} {p2 pos:Pos} (he:PE X e te) (hl:PO X lo tl) (hu:PO X hi th) (hs:PO X (some st) ts):PE X (.Subscript e (.Slice lo hi (some st) p2) pos) (GF X.K te tl th ts):=by
 intro pins s σ H Q I h
 refine Subscript_ (thn (he pins s σ H _ I h) fun v s1 ⟨x,H1,I1,r1,q1⟩=>?_)
 refine wpAny_Slice (thn (hl pins s1 σ H1 _ I1 q1) fun vl s2 ⟨l,H2,I2,pl,q2⟩=>thn (hu pins s2 σ H2 _ I2 q2) fun vu s3 ⟨u,H3,I3,pu,q3⟩=>thn (hs pins s3 σ H3 _ I3 q3) fun vk s4 ⟨k,H4,I4,pk,q4⟩=>?_)
 obtain⟨k0,a,xs,rfl,hx,q⟩:=q4
 cases r1
 have I5:Inv X pins σ H4 { s4 with heap:=s4.heap.push { cls:=.type "slice",data:=.fields #[vl,vu,vk] } }:=I4.kept (t':=s4.toks) fun b ob q=>Heap.get?_push_of_some _ q
 obtain⟨its,r,ht,hz⟩:=I5.list hx
 have hlen:=r.length
 show wpAny (model X.prog X.w) X.A (subscriptTail e (.Slice lo hi (some st) p2) (.ref a) (.ref s4.heap.objs.size)) (EP X pins σ Q) X.xe { s4 with heap:=s4.heap.push { cls:=.type "slice",data:=.fields #[vl,vu,vk] } }
 refine tail_any (ops:=[.ref a,.ref s4.heap.objs.size]) ht.isList.typeIs slot_list_getitem.lookup (wpAny_getItem_list_slice ht.isList (Heap.IsSliceOf.new ..) pl pu pk k0 ?_ (by rw[List.size_toArray] <;> omega)) (by with_unfolding_all rfl)
 refine⟨.ref _,_,I5.laid (t':=s4.toks) (o:=.lst (kf xs l u k)) (fun b ob q=>Heap.get?_push_of_some _ q) (Nat.le_refl _) ?_,rfl,q _ (I5.hok.fresh (Nat.le_refl _))⟩
 have rp:Vals (kf xs l u k) (slicePick its.toArray l u k).toList:=by
  have e:(slicePick its.toArray l u k).toList=(sliceRange (sliceBounds l u k xs.length).1 (sliceBounds l u k xs.length).2.1 (sliceBounds l u k xs.length).2.2).filterMap (its[·]?):=by
   simp [slicePick,hlen]
  rw[e]
  exact r.places _
 have hsz:=slicePick_size_le its.toArray l u k
 have h2:=rp.length
 simp only[Array.length_toList,List.size_toArray] at h2 hsz
 exact⟨by omega,_,0,rp,Heap.get?_push_size _ rfl⟩
end
end L2
namespace L2
open PySem PySem.Spec PyProof.Rows
abbrev h9 (h:Heap) (z TI TO T:Addr) (f:Bool):Prop:=h.get? z=some { cls:=.type "zip",dict:=none,data:=.fields #[rawInt T,.bool f,.bool false,.ref TI,.ref TO],slots:=#[] }
section
variable {prog:Program} {w:World} {A:Around} {E:Value→Shared→Prop} {s:Shared}
theorem zH {M:Model} {a:Addr} {Q:Option Obj→Shared→Prop} (h:Q (s.heap.get? a) s):wpAny M A (loadIfAlive a) Q E s:=fun Γ p hΓ=>by
 unfold loadIfAlive
 rw[Sem.wp_loadIfAlive]
 exact h
theorem yx {z TI TO T:Addr} {f:Bool} {ob:Obj} {Q:Bool→Shared→Prop} (hzf:h9 s.heap z TI TO T f) (hT:s.heap.get? T=some ob) (h:∀ h',h9 h' z TI TO T true→Heap.SameBut z s.heap h'→Q false { s with heap:=h' }) :
  wpAny (model prog w) A (Builtin.SmallTypes.ownedTupleIsFree (.ref z)) Q E s:=by
 unfold Builtin.SmallTypes.ownedTupleIsFree
 refine wpAny_bind (wpAny_field hzf rfl (x:=rawInt T) rfl ?_)
 show wpAny _ _ (loadIfAlive ((T:Int).toNat) >>= _) _ _ _
 have eT:((T:Nat):Int).toNat=T:=Int.toNat_natCast T
 rw[eT]
 refine wpAny_bind (zH ?_)
 rw[hT]
 show wpAny _ _ (field (.ref z) 1 >>= _) _ _ _
 refine wpAny_bind (wpAny_field hzf rfl (x:=.bool f) rfl ?_)
 cases f with
 | true=>exact wpAny_pure (h _ hzf (.refl ..))
 | false=>
  show wpAny _ _ (setField (.ref z) 1 (.bool true) >>= fun _=>pure false) _ _ _
  exact wpAny_bind (wpAny_setField_rec hzf (by simp) fun h' hz' hs'=>wpAny_pure (h h' hz' hs'))
theorem zM {z TI TO i1 i2 l1 l2 T:Addr} {f:Bool} {ob:Obj} {k1 k2:Nat} {xs ys:Array Value} {x y:Value} {Q:Value→Shared→Prop} (D:ZipApart z TI TO i1 i2 l1 l2) (hzf:h9 s.heap z TI TO T f)
  (hTI:IsPair s.heap TI (.ref i1) (.ref i2)) (hT:s.heap.get? T=some ob) (h1:s.heap.IsListIter i1 l1 k1) (h2:s.heap.IsListIter i2 l2 k2) (hl1:s.heap.IsList l1 xs) (hl2:s.heap.IsList l2 ys) (hx:xs[k1]?=some x) (hy:ys[k2]?=some y)
  (hQ:∀ h',h9 h' z TI TO T true→h'.IsListIter i1 l1 (k1 + 1)→h'.IsListIter i2 l2 (k2 + 1)→IsPair h' s.heap.objs.size x y→(∀ c o,c≠z→c≠i1→c≠i2→s.heap.get? c=some o→h'.get? c=some o)→Q (.ref s.heap.objs.size) { s with heap:=h' }) :
  wpAny (model prog w) A (Builtin.«zip.__next__» ⟨[.ref z],[]⟩) (fun fin s'=>∃ v,fin=.done (.ret v)∧Q v s') E s:=by
 show wpAny _ _ (field (.ref z) 2 >>= fun a=>_) _ _ _
 refine wpAny_bind (wpAny_field hzf rfl (x:=.bool false) rfl ?_)
 show wpAny _ _ (field (.ref z) 3 >>= fun a=>_) _ _ _
 refine wpAny_bind (wpAny_field hzf rfl (x:=.ref TI) rfl (wpAny_bind (wpAny_seqItems hTI rfl ?_)))
 show wpAny _ _ (Builtin.SmallTypes.ownedTupleIsFree (.ref z) >>= fun a=>_) _ _ _
 refine wpAny_bind (yx hzf hT fun g1 hz1 sb1=>?_)
 simp only[Bool.false_eq_true,if_false]
 have ht1:g1.IsListIter i1 l1 k1:=h1.extBut sb1.extBut D.i1z
 have ht2:g1.IsListIter i2 l2 k2:=h2.extBut sb1.extBut D.i2z
 have hL1:g1.IsList l1 xs:=hl1.extBut sb1.extBut D.l1z
 have hL2:g1.IsList l2 ys:=hl2.extBut sb1.extBut D.l2z
 rw[List.forIn_toArray]
 refine wpAny_bind ?_
 rw[List.forIn_cons]
 refine wpAny_bind (wpAny_bind (wpAny_holding ?_))
 show wpAny _ _ (Builtin.SmallTypes.nextOf (.ref i1) >>= fun v=>pure (some v)) _ _ _
 refine wpAny_bind (wpAny_nextOf_list_item ht1 hL1 hx fun g2 hi1 sb2=>wpAny_pure (wpAny_pure ?_))
 show wpAny _ _ (forIn [Value.ref i2] _ _) _ _ _
 rw[List.forIn_cons]
 refine wpAny_bind (wpAny_bind (wpAny_holding ?_))
 show wpAny _ _ (Builtin.SmallTypes.nextOf (.ref i2) >>= fun v=>pure (some v)) _ _ _
 refine wpAny_bind (wpAny_nextOf_list_item (ht2.extBut sb2.extBut D.i12.symm) (hL2.extBut sb2.extBut D.l2i1) hy fun g3 hi2 sb3=>wpAny_pure (wpAny_pure ?_))
 show wpAny _ _ (forIn ([]:List Value) _ _) _ _ _
 rw[List.forIn_nil]
 refine wpAny_pure ?_
 show wpAny _ _ (newTuple [x,y] >>= fun t=>ret t) _ _ _
 refine wpAny_bind (wpAny_newTuple (wpAny_pure ⟨_,rfl,?_⟩))
 have hsz:g3.objs.size=s.heap.objs.size:=by rw[sb3.1,sb2.1,sb1.1]
 have hz3:h9 g3 z TI TO T true:=sb3.extBut _ _ D.i2z.symm (sb2.extBut _ _ D.i1z.symm hz1)
 have hq:=hQ (g3.push { cls:=.type "tuple",data:=.seq #[x,y] }) (Heap.get?_push_of_some _ hz3) ((hi1.extBut sb3.extBut D.i12).at fun o e=>Heap.get?_push_of_some _ e) (hi2.at fun o e=>Heap.get?_push_of_some _ e)
  (by rw[← hsz];exact Heap.get?_push_size _ rfl) fun c o c1 c2 c3 e=>Heap.get?_push_of_some _ (sb3.extBut _ _ c3 (sb2.extBut _ _ c2 (sb1.extBut _ _ c1 e)))
 rw[← hsz] at hq
 exact hq
theorem zg {z TI TO i1 i2 l1 l2 T:Addr} {f:Bool} {ob:Obj} {k1 k2:Nat} {xs ys:Array Value} {x y:Value} {Q:Option Value→Shared→Prop} (D:ZipApart z TI TO i1 i2 l1 l2) (hzf:h9 s.heap z TI TO T f)
  (hTI:IsPair s.heap TI (.ref i1) (.ref i2)) (hT:s.heap.get? T=some ob) (h1:s.heap.IsListIter i1 l1 k1) (h2:s.heap.IsListIter i2 l2 k2) (hl1:s.heap.IsList l1 xs) (hl2:s.heap.IsList l2 ys) (hx:xs[k1]?=some x) (hy:ys[k2]?=some y)
  (hQ:∀ h',h9 h' z TI TO T true→h'.IsListIter i1 l1 (k1 + 1)→h'.IsListIter i2 l2 (k2 + 1)→IsPair h' s.heap.objs.size x y→(∀ c o,c≠z→c≠i1→c≠i2→s.heap.get? c=some o→h'.get? c=some o)→Q (some (.ref s.heap.objs.size)) { s with heap:=h' }) :
  wpAny (model prog w) A (pyNext (.ref z)) Q E s:=by
 have hTy:s.TypeIs (.ref z) "zip":=⟨_,hzf,rfl⟩
 unfold pyNext
 exact wpAny_bind (wpAny_attempt (wpAny_callSpecial?_slot (name:=Str.ofString "__next__") hTy F.slot_zip_next
  (wpAny_call_entry F.slot_zip_next hTy F.entry_zip_next (zM D hzf hTI hT h1 h2 hl1 hl2 hx hy fun h' a1 a2 a3 a4 a5=>wpAny_pure (hQ h' a1 a2 a3 a4 a5)) (F.args_zip_next_1 _))))
theorem zL {z TI TO i1 i2 l1 l2 T:Addr} {f:Bool} {ob:Obj} {k1 k2:Nat} {xs ys:Array Value} {Q:Fin→Shared→Prop} (hh:A.handled=none) (D:ZipApart z TI TO i1 i2 l1 l2) (hzf:h9 s.heap z TI TO T f)
  (hTI:IsPair s.heap TI (.ref i1) (.ref i2)) (hT:s.heap.get? T=some ob) (h1:s.heap.IsListIter i1 l1 k1) (h2:s.heap.IsListIter i2 l2 k2) (hl1:s.heap.IsList l1 xs) (hl2:s.heap.IsList l2 ys) (hend:xs[k1]?=none∨ys[k2]?=none)
  (hE:∀ h' e,(∀ c o,c≠z→c≠i1→c≠i2→s.heap.get? c=some o→h'.get? c=some o)→(∃ o,h'.get? e=some o∧o.cls=.type "StopIteration")→E (.ref e) { s with heap:=h' }) :
  wpAny (model prog w) A (Builtin.«zip.__next__» ⟨[.ref z],[]⟩) Q E s:=by
 show wpAny _ _ (field (.ref z) 2 >>= fun a=>_) _ _ _
 refine wpAny_bind (wpAny_field hzf rfl (x:=.bool false) rfl ?_)
 show wpAny _ _ (field (.ref z) 3 >>= fun a=>_) _ _ _
 refine wpAny_bind (wpAny_field hzf rfl (x:=.ref TI) rfl (wpAny_bind (wpAny_seqItems hTI rfl ?_)))
 show wpAny _ _ (Builtin.SmallTypes.ownedTupleIsFree (.ref z) >>= fun a=>_) _ _ _
 refine wpAny_bind (yx hzf hT fun g1 hz1 sb1=>?_)
 simp only[Bool.false_eq_true,if_false]
 have ht1:g1.IsListIter i1 l1 k1:=h1.extBut sb1.extBut D.i1z
 have ht2:g1.IsListIter i2 l2 k2:=h2.extBut sb1.extBut D.i2z
 have hL1:g1.IsList l1 xs:=hl1.extBut sb1.extBut D.l1z
 have hL2:g1.IsList l2 ys:=hl2.extBut sb1.extBut D.l2z
 rw[List.forIn_toArray]
 refine wpAny_bind ?_
 rw[List.forIn_cons]
 refine wpAny_bind (wpAny_bind (wpAny_holding ?_))
 show wpAny _ _ (Builtin.SmallTypes.nextOf (.ref i1) >>= fun v=>pure (some v)) _ _ _
 cases hx:xs[k1]? with
 | none=>
  exact wpAny_bind (wpAny_nextOf_list_end hh ht1 hL1 hx fun h' e hk he=>hE h' e (fun c o c1 c2 c3 q=>hk c o c2 (sb1.extBut _ _ c1 q)) he)
 | some x=>
  have hy:ys[k2]?=none:=by rcases hend with q | q;(rw[hx] at q;cases q);exact q
  refine wpAny_bind (wpAny_nextOf_list_item ht1 hL1 hx fun g2 hi1 sb2=>wpAny_pure (wpAny_pure ?_))
  show wpAny _ _ (forIn [Value.ref i2] _ _) _ _ _
  rw[List.forIn_cons]
  refine wpAny_bind (wpAny_bind (wpAny_holding ?_))
  show wpAny _ _ (Builtin.SmallTypes.nextOf (.ref i2) >>= fun v=>pure (some v)) _ _ _
  exact wpAny_bind (wpAny_nextOf_list_end hh (ht2.extBut sb2.extBut D.i12.symm) (hL2.extBut sb2.extBut D.l2i1) hy fun h' e hk he=>hE h' e (fun c o c1 c2 c3 q=>hk c o c3 (sb2.extBut _ _ c2 (sb1.extBut _ _ c1 q))) he)
theorem zf {z TI TO i1 i2 l1 l2 T:Addr} {f:Bool} {ob:Obj} {k1 k2:Nat} {xs ys:Array Value} {Q:Option Value→Shared→Prop} (hh:A.handled=none) (D:ZipApart z TI TO i1 i2 l1 l2) (hzf:h9 s.heap z TI TO T f)
  (hTI:IsPair s.heap TI (.ref i1) (.ref i2)) (hT:s.heap.get? T=some ob) (h1:s.heap.IsListIter i1 l1 k1) (h2:s.heap.IsListIter i2 l2 k2) (hl1:s.heap.IsList l1 xs) (hl2:s.heap.IsList l2 ys) (hend:xs[k1]?=none∨ys[k2]?=none)
  (hQ:∀ h',(∀ c o,c≠z→c≠i1→c≠i2→s.heap.get? c=some o→h'.get? c=some o)→Q none { s with heap:=h' }):wpAny (model prog w) A (pyNext (.ref z)) Q E s:=by
 have hTy:s.TypeIs (.ref z) "zip":=⟨_,hzf,rfl⟩
 unfold pyNext
 refine wpAny_bind (wpAny_attempt (wpAny_callSpecial?_slot (name:=Str.ofString "__next__") hTy F.slot_zip_next
  (wpAny_call_entry F.slot_zip_next hTy F.entry_zip_next (zL hh D hzf hTI hT h1 h2 hl1 hl2 hend fun h' e hk he=>?_) (F.args_zip_next_1 _))))
 obtain⟨o,ho,hcl⟩:=he
 exact wpAny_bind (wpAny_isInstance (T:="StopIteration") (b:=true) ⟨o,ho,hcl⟩ isSubtype_stop (wpAny_pure (hQ _ hk)))
theorem Bu {R:Result→Shared→Prop} {I S:Addr} {res:Value} {n:Nat} (J:Nat→List Value→Shared→Prop) (hn:n < sizeLine) (hlen:∀ i acc s,J i acc s→acc.length=i)
  (item:∀ i acc s E,i < n→J i acc s→wpAny (model prog w) A.in1 (pyNext (.ref I)) (fun r s'=>∃ v c,r=some v∧s'.heap.get? S=some (cm acc c)∧∀ h',Heap.SameBut S s'.heap h'→h'.get? S=some (cm (acc++[v]) (c + 1))→J (i + 1) (acc++[v]) { s' with heap:=h' }) E s)
  (done:∀ acc s E,J n acc s→wpAny (model prog w) A.in1 (pyNext (.ref I)) (fun r s'=>r=none∧R (.ok (.ret res)) s') E s) :
  ∀ (k i:Nat) (acc:List Value) (s:Shared),n - i=k→i≤n→J i acc s→codeAny (model prog w) A (.builtin "list.extend.loop" ⟨[.ref S,.ref I,res],[]⟩) R s:=by
 intro k
 induction k with
 | zero=>
  intro i acc s hk hi hJ
  obtain rfl:i=n:=by omega
  refine codeAny_builtin F.entry_extend_loop ?_
  rw[Around.under_plainId F.plain_extend_loop _]
  show wpAny _ A.in1 (pyNext (.ref I) >>= fun r=>_) _ _ s
  refine wpAny_bind (thn (done acc s _ hJ) fun r s' ⟨hr,q⟩=>?_)
  subst hr
  exact wpAny_pure q
 | succ k ih=>
  intro i acc s hk hi hJ
  refine codeAny_builtin F.entry_extend_loop ?_
  rw[Around.under_plainId F.plain_extend_loop _]
  show wpAny _ A.in1 (pyNext (.ref I) >>= fun r=>_) _ _ s
  refine wpAny_bind (thn (item i acc s _ (by omega) hJ) fun r s' ⟨v,c,hr,hS,q⟩=>?_)
  subst hr
  have hl:=hlen i acc s hJ
  show wpAny _ A.in1 (updateSeq S (·.push v) >>= fun r=>_) _ _ _
  have eo:Obj.mapSeq (·.push v) (cm acc c)=cm (acc++[v]) (c + 1):=by
   show Obj.mapSeq (·.push v) { cls:=.type "list",dict:=none,data:=.seq acc.toArray c,slots:=#[] }=_
   rw[mapSeq_push,List.push_toArray]
  refine wpAny_bind (wpAny_updateSeq hS rfl (wpAny_pure ⟨plainId_quiet F.plain_extend_loop _,ih (i + 1) (acc++[v]) _ (by omega) (by omega) (q _ (Heap.SameBut.update ..) ?_)⟩) (by rw[List.size_toArray];omega) (by show (acc.toArray.push v).size≤sizeLine + 1;rw[Array.size_push,List.size_toArray];omega))
  rw[Heap.get?_update_self _ hS (by rw[eo];rfl),eo]
end
end L2
namespace L2
open PySem PySem.Spec PyProof.Rows
theorem yS:typeLookup (.type "zip") "__len__"=pure none:=by rw[typeLookup_type,builtinLookup_eq_fast];kernel_rfl
theorem wD:typeLookup (.type "zip") "__length_hint__"=pure none:=by rw[typeLookup_type,builtinLookup_eq_fast];kernel_rfl
section
variable {X:Cx} {pins:List (Addr×Obj)} {σ:St} {H:Hp} {s:Shared}
theorem Inv.adopt {S:Addr} {xs:List V} {us:List Value} {c:Nat} (I:Inv X pins σ H s) (fS:fX X pins H S) (hS:s.heap.get? S=some (cm us c)) (r:Vals xs us) (hz:xs.length≤sizeLine):Inv X pins σ (upd H S (.lst xs)) s:=by
 have neH:∀ {b:Addr} {u:HO},H b=some u→b≠S:=fun e z=>by rw[z,fS.1] at e;cases e
 refine⟨I.ok,I.os,I.bare,⟨I.base.keep,I.base.slot,fun b o e n hx=>?_,I.base.there,fun b ys e=>?_,fun b o u e=>?_,fun b ps e=>?_⟩,I.loc,I.cell,?_,fun x d e=>?_,fun p hp=>?_,fun b u e=>?_,I.len⟩
 ·have nb:b≠S:=fun z=>by
   rcases fS.2.2.2.1 with q | q
   ·exact hx (by rw[z];exact q)
   ·exact absurd (Nat.lt_of_lt_of_le (Heap.lt_size e) (by rw[z];exact q)) (Nat.lt_irrefl _)
  rw[aj nb]
  exact I.base.free b o e n hx
 ·have q:=I.base.tups b ys e
  rw[aj (neH q)];exact q
 ·have q:=I.base.frzs b o u e
  rw[aj (neH q)];exact q
 ·obtain⟨m,q⟩:=I.base.tbls b ps e
  exact⟨m,by rw[aj (neH q)];exact q⟩
 ·rw[aj (Ne.symm fS.2.1)];exact I.free
 ·rw[aj (fS.2.2.2.2.1 x d e)];exact I.freeC x d e
 ·obtain⟨e1,e2,e3⟩:=I.pin p hp
  exact⟨e1,by rw[aj (fS.2.2.2.2.2 p hp)];exact e2,e3⟩
 ·by_cases hb:b=S
  ·subst hb
   rw[aC] at e
   cases e
   exact⟨hz,us,c,r,hS⟩
  ·rw[aj hb] at e
   exact(I.hok b u e).rL (fun _ _ _ q=>q) (fun d q=>by rw[aj (neH q)];exact q) fun d ys q=>by rw[aj (neH q)];exact q
theorem fX.heap {b:Addr} {H':Hp} (f:fX X pins H b) (h:H' b=none):fX X pins H' b:=⟨h,f.2⟩
theorem su:∀ ts:List Addr,Vals (ts.map V.ref) (ts.map Value.ref)
 | []=>.nil
 | _::r=>.cons rfl (su r)
def Ib (H:Hp) (xs ys:List V) (Q:VK):Prop:=∀ (S:Addr) (ts:List Addr) (H':Hp),H S=none→aP H H'→H' S=some (.lst (ts.map V.ref))→ts.length=min xs.length ys.length→
 (∀ (j:Nat) t x y,ts[j]?=some t→xs[j]?=some x→ys[j]?=some y→H' t=some (.tup [x,y]))→(∀ t∈ts,H t=none)→Q (.ref S) H'
theorem vN {E:Value→Shared→Prop} {z TI TO i1 i2 l1 l2:Addr} {xs ys:List V} {Q:VK} (D:nV z TI TO i1 i2) (I:Inv X pins σ H s) (hc:X.calm=true) (hf:∀ b∈[z,TI,TO,i1,i2],fX X pins H b) (st:Ex z TI TO i1 i2 l1 l2 0 s.heap)
  (ha:H l1=some (.lst xs)) (hb:H l2=some (.lst ys)) (hn:min xs.length ys.length < sizeLine) (q:Ib H xs ys Q):wpAny (model X.prog X.w) X.A (call (.type "list") [.ref z]) (EP X pins σ Q) E s:=by
 obtain⟨hz,hTI,⟨a0,b0,hTO⟩,h1,h2⟩:=st
 obtain⟨S,hSe⟩:∃ S,S=s.heap.objs.size:=⟨_,rfl⟩
 have fS:fX X pins H S:=by rw[hSe];exact I.p4 (Nat.le_refl _) (I.hok.fresh (Nat.le_refl _))
 have inS:∀ b∈[z,TI,TO,i1,i2],b < S:=fun b hb'=>by
  have hlt:∃ o,s.heap.get? b=some o:=by
   obtain⟨o1,e1,_⟩:=h1
   obtain⟨o2,e2,_⟩:=h2
   simp only[List.mem_cons,List.not_mem_nil,or_false] at hb'
   rcases hb' with rfl | rfl | rfl | rfl | rfl
   ·exact⟨_,hz⟩
   ·exact⟨_,hTI⟩
   ·exact⟨_,hTO⟩
   ·exact⟨_,e1⟩
   ·exact⟨_,e2⟩
  obtain⟨o,e⟩:=hlt
  rw[hSe];exact Heap.lt_size e
 have nS:∀ b∈[z,TI,TO,i1,i2],b≠S:=fun b hb'=>Nat.ne_of_lt (inS b hb')
 have apart:∀ H':Hp,aP H H'→(∀ b∈[z,TI,TO,i1,i2],H' b=none)→ZipApart z TI TO i1 i2 l1 l2:=fun H' sm nf=>by
  have ne1:∀ b∈[z,TI,TO,i1,i2],l1≠b:=fun b hb' e=>by have:=sm _ _ ha;rw[e,nf b hb'] at this;cases this
  have ne2:∀ b∈[z,TI,TO,i1,i2],l2≠b:=fun b hb' e=>by have:=sm _ _ hb;rw[e,nf b hb'] at this;cases this
  exact⟨D.TIz,D.TOz,D.i1z,D.i2z,D.TITO,D.TIi1,D.TIi2,D.TOi1,D.TOi2,D.i12,ne1 z (by simp),ne1 TO (by simp),ne1 i1 (by simp),ne1 i2 (by simp),ne2 z (by simp),ne2 TO (by simp),ne2 i1 (by simp),ne2 i2 (by simp)⟩
 let J:Nat→List Value→Shared→Prop:=fun i acc s'=>∃ (H':Hp) (ts:List Addr) (c:Nat),Inv X pins σ H' s'∧acc=ts.map Value.ref∧ts.length=i∧H' S=none∧s'.heap.get? S=some (cm acc c)∧aP H H'∧
  (∀ (j:Nat) t x y,ts[j]?=some t→xs[j]?=some x→ys[j]?=some y→H' t=some (.tup [x,y]))∧(∀ t∈ts,H' t≠none∧H t=none)∧(∀ b∈[z,TI,TO,i1,i2],H' b=none)∧(∃ o,s'.heap.get? TO=some o)∧IsPair s'.heap TI (.ref i1) (.ref i2)∧s'.heap.IsListIter i1 l1 i∧s'.heap.IsListIter i2 l2 i∧
  ((ts=[]∧IsZip s'.heap z TI TO .none∧∃ a b,IsPair s'.heap TO a b)∨∃ t r f,ts=t::r∧h9 s'.heap z TI TO t f)
 have alive:∀ {H':Hp} {s':Shared} {t:Addr},Inv X pins σ H' s'→H' t≠none→∃ o,s'.heap.get? t=some o:=fun {H' s' t} I' h=>by
  cases e:H' t with
  | none=>exact absurd e h
  | some o=>
   have lt:=I'.hok.lt e
   have x:=I'.hok t o e
   cases e2:s'.heap.get? t with
   | some ob=>exact⟨ob,rfl⟩
   | none=>
    exfalso
    cases o with
    | lst _=>obtain⟨_,_,_,_,e3⟩:=x;rw[e2] at e3;cases e3
    | tup _=>obtain⟨_,_,_,p⟩:=x;obtain⟨_,e3,_⟩:=p;rw[e2] at e3;cases e3
    | dK _=>obtain⟨_,_,_,_,_,_,_,e3,_⟩:=x;rw[e2] at e3;cases e3
    | dT _=>obtain⟨_,_,_,_,_,_,_,e3,_⟩:=x;rw[e2] at e3;cases e3
    | set _ _=>obtain⟨_,_,_,_,e3,_⟩:=x;rw[e2] at e3;cases e3
    | ins _ _ _=>obtain⟨_,_,_,e3,_⟩:=x;rw[e2] at e3;cases e3
    | own _=>obtain⟨_,e3⟩:=x;rw[e2] at e3;cases e3
    | xd _=>obtain⟨_,⟨_,_,_,e3,_⟩,_⟩:=x;rw[e2] at e3;cases e3
    | rng _ _=>obtain⟨_,_,_,e3⟩:=x;rw[e2] at e3;cases e3
    | frz _ _=>obtain⟨e3,_⟩:=x;rw[e2] at e3;cases e3
    | tbl _=>have e3:s'.heap.get? t=some _:=x;rw[e2] at e3;cases e3
    | met _ _=>have e3:s'.heap.get? t=some _:=x;rw[e2] at e3;cases e3
    | ext _=>obtain⟨_,⟨_,e3⟩,_⟩:=x;rw[e2] at e3;cases e3
 have chOk:∀ {H':Hp},(∀ b∈[z,TI,TO,i1,i2],H' b=none)→∀ b∈[z,TO,i1,i2],fX X pins H' b:=fun {H'} nf b hb'=>by
  have hb2:b∈[z,TI,TO,i1,i2]:=by
   simp only[List.mem_cons,List.not_mem_nil,or_false] at hb' ⊢
   rcases hb' with e | e | e | e <;> simp [e]
  exact(hf b hb2).heap (nf b hb2)
 have step:∀ (i:Nat) (H':Hp) (ts:List Addr) (c:Nat) (s':Shared) (h':Heap) (x y:V) (u v:Value),Inv X pins σ H' s'→ts.length=i→H' S=none→s'.heap.get? S=some (cm (ts.map Value.ref) c)→aP H H'→
   (∀ (j:Nat) t x y,ts[j]?=some t→xs[j]?=some x→ys[j]?=some y→H' t=some (.tup [x,y]))→(∀ t∈ts,H' t≠none∧H t=none)→(∀ b∈[z,TI,TO,i1,i2],H' b=none)→(∀ b∈[z,TI,TO,i1,i2],∃ o,s'.heap.get? b=some o)→IsPair s'.heap TI (.ref i1) (.ref i2)→xs[i]?=some x→ys[i]?=some y→RelV x u→RelV y v→
   (∀ b o,b∉[z,TO,i1,i2]→s'.heap.get? b=some o→h'.get? b=some o)→(∃ o,h'.get? TO=some o)→IsPair h' s'.heap.objs.size u v→h'.IsListIter i1 l1 (i + 1)→h'.IsListIter i2 l2 (i + 1)→(∃ t r f,ts++[s'.heap.objs.size]=t::r∧h9 h' z TI TO t f)→
   ∃ v' c',some (Value.ref s'.heap.objs.size)=some v'∧h'.get? S=some (cm (ts.map Value.ref) c')∧∀ g,Heap.SameBut S h' g→g.get? S=some (cm (ts.map Value.ref++[v']) (c' + 1))→J (i + 1) (ts.map Value.ref++[v']) { s' with heap:=g }:=by
  intro i H' ts c s' h' x y u v I' hl hHS hS sm hts hal nf ex hTI' hx hy ru rv hk hTOx hT hi1 hi2 hzz
  have Slt:S < s'.heap.objs.size:=Heap.lt_size hS
  have ST:S≠s'.heap.objs.size:=Nat.ne_of_lt Slt
  have fT:H' s'.heap.objs.size=none:=I'.hok.fresh (Nat.le_refl _)
  have hSn:S∉[z,TO,i1,i2]:=fun hm=>by
   simp only[List.mem_cons,List.not_mem_nil,or_false] at hm
   rcases hm with e | e | e | e
   ·exact nS z (by simp) e.symm
   ·exact nS TO (by simp) e.symm
   ·exact nS i1 (by simp) e.symm
   ·exact nS i2 (by simp) e.symm
  refine⟨_,c,rfl,hk S _ hSn hS,fun g sb hg=>?_⟩
  have I1:Inv X pins σ (upd H' s'.heap.objs.size (.tup [x,y])) { s' with heap:=h' }:=I'.t7 (t':=s'.toks) (chOk nf) (Nat.le_refl _) hk ⟨_,hT,rfl,_,rfl⟩ ru rv
  have nT:∀ b∈[z,TI,TO,i1,i2],b≠s'.heap.objs.size:=fun b hb'=>by obtain⟨o,e⟩:=ex b hb';exact Nat.ne_of_lt (Heap.lt_size e)
  have hS2:(upd H' s'.heap.objs.size (.tup [x,y])) S=none:=by rw[aj ST];exact hHS
  have I2:Inv X pins σ (upd H' s'.heap.objs.size (.tup [x,y])) { s' with heap:=g }:=I1.moved (t':=s'.toks) (ch:=[S]) (fun b hb'=>by
   have e:b=S:=by simpa using hb'
   rw[e];exact fS.heap hS2) fun b o hb' e=>(sb.2 b fun z'=>hb' (by simp [z'])).trans e
  have nTt:∀ {t:Addr},H' t≠none→t≠s'.heap.objs.size:=fun h e=>h (by rw[e];exact fT)
  refine⟨upd H' s'.heap.objs.size (.tup [x,y]),ts++[s'.heap.objs.size],c + 1,I2,by rw[List.map_append];rfl,by rw[List.length_append,hl];rfl,hS2,hg,fun b o e=>?_,fun j t x' y' ht hx' hy'=>?_,fun t ht=>?_,fun b hb'=>?_,?_,?_,?_,?_,?_⟩
  ·have e':=sm b o e
   rw[aj (fun z'=>by rw[z',fT] at e';cases e')];exact e'
  ·by_cases hj:j < ts.length
   ·rw[List.getElem?_append_left hj] at ht
    have e':=hts j t x' y' ht hx' hy'
    rw[aj (nTt (by rw[e'];simp))];exact e'
   ·have hj2:j=ts.length:=by
     have:=(List.getElem?_eq_some_iff.mp ht).1
     rw[List.length_append,List.length_singleton] at this
     omega
    subst hj2
    rw[List.getElem?_append_right (Nat.le_refl _),Nat.sub_self] at ht
    have et:t=s'.heap.objs.size:=(Option.some.inj ht).symm
    rw[hl] at hx' hy'
    rw[hx] at hx';rw[hy] at hy'
    cases hx';cases hy'
    rw[et];exact aC
  ·rcases List.mem_append.mp ht with z' | z'
   ·rw[aj (nTt (hal t z').1)];exact hal t z'
   ·have e:t=s'.heap.objs.size:=by simpa using z'
    rw[e,aC];exact⟨by simp,sm.free fT⟩
  ·rw[aj (nT b hb')];exact nf b hb'
  ·obtain⟨o,e⟩:=hTOx
   exact⟨o,(sb.2 TO (nS TO (by simp))).trans e⟩
  ·exact(sb.2 TI (nS TI (by simp))).trans (hk TI _ (by simp [D.TIz,D.TITO,D.TIi1,D.TIi2]) hTI')
  ·exact hi1.extBut sb.extBut (nS i1 (by simp))
  ·exact hi2.extBut sb.extBut (nS i2 (by simp))
  ·obtain⟨t,r,f,e,hzf⟩:=hzz
   exact .inr ⟨t,r,f,e,(sb.2 z (nS z (by simp))).trans hzf⟩
 refine callType_codes (Q₁:=fun obj s₁=>obj=.ref S∧s₁={ s with heap:=s.heap.push { cls:=.type "list",data:=.seq #[] } }) F.called_list (F.typeCall_list_1 _) F.entry_list_init (code_list_new _ ⟨by rw[hSe],rfl⟩) fun obj s₁ e₁=>?_
 obtain⟨rfl,rfl⟩:=e₁
 have hS0:(s.heap.push { cls:=.type "list",data:=.seq #[] }).get? S=some { cls:=.type "list",data:=.seq #[] }:=by rw[hSe];exact Heap.get?_push_size _ rfl
 have up0:∀ b o,s.heap.get? b=some o→(s.heap.push { cls:=.type "list",data:=.seq #[] }).get? b=some o:=fun b o e=>Heap.get?_push_of_some _ e
 have I0:Inv X pins σ H { s with heap:=s.heap.push { cls:=.type "list",data:=.seq #[] } }:=I.kept (t':=s.toks) up0
 refine⟨⟨_,hS0,rfl⟩,F.args_list_init_2 _ _,?_⟩
 show wpAny _ X.A.in1.in1 (Builtin.List.listItems (.ref S) >>= fun old=>Builtin.List.listUpdate (.ref S) (fun _=>#[]) >>= fun _=>letGo old.toList.reverse >>= fun _=>Builtin.List.listExtendWith (.ref S) (.ref z) .none) _ _ _
 unfold Builtin.List.listItems
 refine wpAny_bind (wpAny_bind (wpAny_seqItems hS0 rfl (wpAny_pure ?_)))
 show wpAny _ X.A.in1.in1 (updateSeq S (fun _=>#[]) >>= fun _=>letGo (#[]:Array Value).toList.reverse >>= fun _=>Builtin.List.listExtendWith (.ref S) (.ref z) .none) _ _ _
 refine wpAny_bind (wpAny_updateSeq hS0 rfl (wpAny_bind (wpAny_letGo ?_)))
 have hS1:=Heap.get?_update_self (Obj.mapSeq (fun _=>(#[]:Array Value))) hS0 rfl
 have up1:∀ b o,b≠S→s.heap.get? b=some o→((s.heap.push { cls:=.type "list",data:=.seq #[] }).update S (Obj.mapSeq (fun _=>(#[]:Array Value)))).get? b=some o:=fun b o nb e=>(Heap.get?_update_other _ _ (Ne.symm nb)).trans (up0 b o e)
 generalize hg1:(s.heap.push { cls:=.type "list",data:=.seq #[] }).update S (Obj.mapSeq (fun _=>(#[]:Array Value)))=g1 at hS1 up1
 have hzT:∀ g:Heap,(∀ b o,b≠S→s.heap.get? b=some o→g.get? b=some o)→g.get? z=some _:=fun g k=>k z _ (nS z (by simp)) hz
 have TyZ:∀ s':Shared,s'.heap.get? z=some { cls:=.type "zip",dict:=none,data:=.fields #[.none,.bool false,.bool false,.ref TI,.ref TO],slots:=#[] }→s'.TypeIs (.ref z) "zip":=fun s' e=>⟨_,e,rfl⟩
 unfold Builtin.List.listExtendWith
 refine wpAny_bind (wpAny_typeOf (TyZ _ (hzT g1 up1)) ?_)
 have b1:Builtin.List.listSameRef (.ref S) (.ref z)=false:=by simp [Builtin.List.listSameRef,(nS z (by simp)).symm]
 have b2:(Value.type "zip" == Value.type "list")=false:=by decide
 have b3:(Value.type "zip" == Value.type "tuple")=false:=by decide
 simp only[b1,b2,b3,Bool.or_false,Bool.false_eq_true,if_false]
 refine wpAny_bind (wpAny_pyIter_zip (hzT g1 up1) (wpAny_bind (wpAny_holding ?_)))
 unfold Builtin.List.listLengthHint
 refine wpAny_bind (wpAny_specialOf (TyZ _ (hzT g1 up1)) yS ?_)
 show wpAny _ X.A.in1.in1 (specialOf (Value.ref z) (Str.ofString "__length_hint__") >>= fun a=>_) _ _ _
 refine wpAny_bind (wpAny_specialOf (TyZ _ (hzT g1 up1)) wD (wpAny_pure ?_))
 show wpAny _ X.A.in1.in1 (rule "list.extend.makes-room" >>= fun _=>Builtin.List.listTouch (.ref S) >>= fun _=>again (.builtin "list.extend.loop" ⟨[.ref S,.ref z,.none],[]⟩)) _ _ _
 refine wpAny_bind (wpAny_rule (wpAny_bind ?_))
 show wpAny _ X.A.in1.in1 (updateSeq S (·.push .none) >>= fun _=>updateSeq S (·.pop)) _ _ _
 refine wpAny_bind (wpAny_updateSeq hS1 rfl ?_)
 have hS2:=Heap.get?_update_self (Obj.mapSeq (·.push Value.none)) hS1 rfl
 refine wpAny_updateSeq (hz:=by seq_fits) hS2 rfl ?_
 have hS3:=Heap.get?_update_self (Obj.mapSeq (·.pop)) hS2 rfl
 have up3:∀ b o,b≠S→s.heap.get? b=some o→((g1.update S (Obj.mapSeq (·.push Value.none))).update S (Obj.mapSeq (·.pop))).get? b=some o:=
  fun b o nb e=>(Heap.get?_update_other _ _ (Ne.symm nb)).trans ((Heap.get?_update_other _ _ (Ne.symm nb)).trans (up1 b o nb e))
 generalize hg3:(g1.update S (Obj.mapSeq (·.push Value.none))).update S (Obj.mapSeq (·.pop))=g3 at hS3 up3
 have I3:Inv X pins σ H { s with heap:=g3 }:=I.moved (t':=s.toks) (ch:=[S]) (fun b hb'=>by
  have e:b=S:=by simpa using hb'
  rw[e];exact fS) fun b o hb' e=>up3 b o (fun z'=>hb' (by simp [z'])) e
 obtain⟨c0,hc0⟩:∃ c0,g3.get? S=some (cm [] c0):=⟨_,hS3⟩
 have J0:J 0 [] { s with heap:=g3 }:=⟨H,[],c0,I3,rfl,rfl,fS.1,hc0,aP.refl H,fun j t x y h=>by simp at h,fun t h=>by simp at h,fun b hb'=>(hf b hb').1,⟨_,up3 TO _ (nS TO (by simp)) hTO⟩,up3 TI _ (nS TI (by simp)) hTI,h1.at fun o e=>up3 i1 o (nS i1 (by simp)) e,h2.at fun o e=>up3 i2 o (nS i2 (by simp)) e,
  .inl ⟨rfl,up3 z _ (nS z (by simp)) hz,a0,b0,up3 TO _ (nS TO (by simp)) hTO⟩⟩
 refine wpAny_pure ⟨plainId_quiet F.plain_extend_loop _,Bu J hn (fun i acc s' h=>?_) (fun i acc s' E' hi h=>?_) (fun acc s' E' h=>?_) _ 0 [] _ rfl (Nat.zero_le _) J0⟩
 ·obtain⟨_,ts,_,_,e,l,_⟩:=h
  rw[e,List.length_map,l]
 ·obtain⟨H',ts,c,I',rfl,hl,hHS,hS,sm,hts,hal,nf,toEx,hTI',hi1,hi2,hzz⟩:=h
  have Z:=apart H' sm nf
  obtain⟨ia,na,ra,ea,_⟩:=I'.lst (sm _ _ ha)
  obtain⟨ib,nb,rb,eb,_⟩:=I'.lst (sm _ _ hb)
  have hix:i < xs.length:=by omega
  have hiy:i < ys.length:=by omega
  have hx:xs[i]?=some xs[i]:=List.getElem?_eq_getElem hix
  have hy:ys[i]?=some ys[i]:=List.getElem?_eq_getElem hiy
  obtain⟨u,hu,ru⟩:=ra.get hx
  obtain⟨v,hv,rv⟩:=rb.get hy
  have LA:s'.heap.IsList l1 ia.toArray:=⟨_,ea,rfl,_,rfl⟩
  have LB:s'.heap.IsList l2 ib.toArray:=⟨_,eb,rfl,_,rfl⟩
  have exb:∀ zo:∃ o,s'.heap.get? z=some o,∀ to:∃ o,s'.heap.get? TO=some o,∀ b∈[z,TI,TO,i1,i2],∃ o,s'.heap.get? b=some o:=fun zo to b hb'=>by
   obtain⟨o1,e1,_⟩:=hi1
   obtain⟨o2,e2,_⟩:=hi2
   simp only[List.mem_cons,List.not_mem_nil,or_false] at hb'
   rcases hb' with rfl | rfl | rfl | rfl | rfl
   ·exact zo
   ·exact⟨_,hTI'⟩
   ·exact to
   ·exact⟨_,e1⟩
   ·exact⟨_,e2⟩
  rcases hzz with ⟨rfl,hz',a,b,hTO'⟩ | ⟨t,r,f,rfl,hzf⟩
  ·refine wpAny_pyNext_zip_item Z hz' hTI' hTO' hi1 hi2 LA LB (x:=u) (y:=v) (by simpa using hu) (by simpa using hv) fun h' a1 a2 a3 a4 a5 a6 hk=>?_
   exact step i H' [] c s' h' _ _ u v I' hl hHS hS sm hts hal nf (exb ⟨_,hz'⟩ ⟨_,hTO'⟩) hTI' hx hy ru rv (fun b o hb' e=>by
    simp only[List.mem_cons,List.not_mem_nil,or_false,not_or] at hb'
    exact hk b o hb'.1 hb'.2.1 hb'.2.2.1 hb'.2.2.2 e) ⟨_,a2⟩ a5 a3 a4 ⟨_,[],false,rfl,a1⟩
  ·obtain⟨ot,et⟩:=alive I' (hal t List.mem_cons_self).1
   refine zg Z hzf hTI' et hi1 hi2 LA LB (x:=u) (y:=v) (by simpa using hu) (by simpa using hv) fun h' a1 a2 a3 a4 hk=>?_
   exact step i H' (t::r) c s' h' _ _ u v I' hl hHS hS sm hts hal nf (exb ⟨_,hzf⟩ toEx) hTI' hx hy ru rv (fun b o hb' e=>by
    simp only[List.mem_cons,List.not_mem_nil,or_false,not_or] at hb'
    exact hk b o hb'.1 hb'.2.2.1 hb'.2.2.2 e) (by obtain⟨o,e⟩:=toEx;exact⟨o,hk TO o D.TOz D.TOi1 D.TOi2 e⟩) a4 a2 a3 ⟨t,r++[_],true,rfl,a1⟩
 ·obtain⟨H',ts,c,I',rfl,hl,hHS,hS,sm,hts,hal,nf,toEx,hTI',hi1,hi2,hzz⟩:=h
  have Z:=apart H' sm nf
  obtain⟨ia,na,ra,ea,_⟩:=I'.lst (sm _ _ ha)
  obtain⟨ib,nb,rb,eb,_⟩:=I'.lst (sm _ _ hb)
  have LA:s'.heap.IsList l1 ia.toArray:=⟨_,ea,rfl,_,rfl⟩
  have LB:s'.heap.IsList l2 ib.toArray:=⟨_,eb,rfl,_,rfl⟩
  have la:=ra.length
  have lb:=rb.length
  have hend:ia.toArray[min xs.length ys.length]?=none∨ib.toArray[min xs.length ys.length]?=none:=by
   by_cases hle:xs.length≤ys.length
   ·left;simp;omega
   ·right;simp;omega
  have fin:∀ h',(∀ b o,b∉[z,TO,i1,i2]→s'.heap.get? b=some o→h'.get? b=some o)→wants (fun r s₂=>r=.none∧EP X pins σ Q (.ref S) s₂) E (.ok (.ret .none)) { s' with heap:=h' }:=fun h' hk=>by
   have I4:Inv X pins σ H' { s' with heap:=h' }:=I'.moved (t':=s'.toks) (chOk nf) hk
   have hS4:h'.get? S=some (cm (ts.map Value.ref) c):=hk S _ (fun hm=>by
    simp only[List.mem_cons,List.not_mem_nil,or_false] at hm
    rcases hm with e | e | e | e
    ·exact nS z (by simp) e.symm
    ·exact nS TO (by simp) e.symm
    ·exact nS i1 (by simp) e.symm
    ·exact nS i2 (by simp) e.symm) hS
   have I5:=I4.adopt (fS.heap hHS) hS4 (su ts) (by rw[List.length_map,hl];omega)
   have sm5:aP H (upd H' S (.lst (ts.map V.ref))):=fun b o e=>by rw[aj (bx (sm b o e) hHS)];exact sm b o e
   exact⟨rfl,.ref S,_,I5,rfl,q S ts _ fS.1 sm5 aC hl (fun j t x y ht hx hy=>by
    have e:=hts j t x y ht hx hy
    rw[aj (bx e hHS)];exact e) fun t ht=>(hal t ht).2⟩
  rcases hzz with ⟨rfl,hz',a,b,hTO'⟩ | ⟨t,r,f,rfl,hzf⟩
  ·exact wpAny_pyNext_zip_end (I.ok.hd hc) Z hz' hTI' hTO' hi1 hi2 LA LB hend fun h' hk=>⟨rfl,fin h' fun b o hb' e=>by
    simp only[List.mem_cons,List.not_mem_nil,or_false,not_or] at hb'
    exact hk b o hb'.1 hb'.2.1 hb'.2.2.1 hb'.2.2.2 e⟩
  ·obtain⟨ot,et⟩:=alive I' (hal t List.mem_cons_self).1
   exact zf (I.ok.hd hc) Z hzf hTI' et hi1 hi2 LA LB hend fun h' hk=>⟨rfl,fin h' fun b o hb' e=>by
    simp only[List.mem_cons,List.not_mem_nil,or_false,not_or] at hb'
    exact hk b o hb'.1 hb'.2.2.1 hb'.2.2.2 e⟩
def va (t:TA):TE:=fun σ H Q=>t σ H fun vs H1=>∃ (p q:Addr) (xs ys:List V),vs=[.ref p,.ref q]∧H1 p=some (.lst xs)∧H1 q=some (.lst ys)∧min xs.length ys.length < sizeLine∧Ib H1 xs ys Q
theorem wY {a b:Expr} {ta:TA} {p p2 pos pos2:Pos} (hc:X.calm=true) (hg:Gl X "list") (hm:X.mg "list"=none) (hg2:Gl X "zip") (hm2:X.mg "zip"=none) (ha:PA X [a,b] ta)
  (hs:starEach [a,b] X.env=[(false,eval a X.env),(false,eval b X.env)]:=by rfl) (hs2:starEach [b] X.env=[(false,eval b X.env)]:=by rfl) (hs3:starEach [Expr.Call (.Name "zip" p2) [a,b] [] pos2] X.env=[(false,eval (.Call (.Name "zip" p2) [a,b] [] pos2) X.env)]:=by rfl) :
  PE X (.Call (.Name "list" p) [.Call (.Name "zip" p2) [a,b] [] pos2] [] pos) (va ta):=by
 intro pins s σ H Q I h
 refine wpAny_Call_Name_kw (kq I hg hm (by decide +kernel:bootBuiltins "list"=some (.type "list")) ?_)
 refine PyProof.Rows.callWith_type1 ?_ (by rw[hs3];rfl) rfl
 rw[hs3]
 show wpAny _ _ (spliced ((false,eval (.Call (.Name "zip" p2) [a,b] [] pos2) X.env)::backTo pos [])) _ _ s
 refine Calls.spliced_cons (Call_ (kq I hg2 hm2 (by decide +kernel:bootBuiltins "zip"=some (.type "zip")) (PyProof.Rows.callWith_type1 (thn (ha pos2 pins s σ H _ I h) fun us s1 ⟨vs,H1,I1,r1,q1⟩=>?_) (by rw[hs,hs2]) (by rw[hs2];rfl))))
 obtain⟨l1,l2,xs,ys,e,h1,h2,hn,q⟩:=q1
 subst e
 obtain⟨u,w',rfl,ru,rw'⟩:=vals2 r1
 cases ru
 cases rw'
 obtain⟨ia,na,ra,ea,_⟩:=I1.lst h1
 obtain⟨ib,nb,rb,eb,_⟩:=I1.lst h2
 refine call_zip_2 (xs:=ia.toArray) (ys:=ib.toArray) ⟨_,ea,rfl,_,rfl⟩ ⟨_,eb,rfl,_,rfl⟩ fun h' hz hTI hTO hi1 hi2 hsz hk=>?_
 have I2:Inv X pins σ H1 { s1 with heap:=h' }:=I1.kept (t':=s1.toks) hk
 have lt:∀ i j:Nat,i < j→s1.heap.objs.size + i≠s1.heap.objs.size + j:=fun i j h e=>by omega
 have D:nV (s1.heap.objs.size + 4) (s1.heap.objs.size + 2) (s1.heap.objs.size + 3) s1.heap.objs.size (s1.heap.objs.size + 1):=
  ⟨lt 2 4 (by decide),lt 3 4 (by decide),lt 0 4 (by decide),lt 1 4 (by decide),lt 2 3 (by decide),(lt 0 2 (by decide)).symm,(lt 1 2 (by decide)).symm,(lt 0 3 (by decide)).symm,(lt 1 3 (by decide)).symm,lt 0 1 (by decide)⟩
 refine Calls.spliced_nil ?_
 refine vN D I2 hc (fun b hb=>?_) ⟨hz,hTI,⟨_,_,hTO⟩,hi1,hi2⟩ h1 h2 hn q
 have hge:s1.heap.objs.size≤b:=by
  simp only[List.mem_cons,List.not_mem_nil,or_false] at hb
  rcases hb with rfl | rfl | rfl | rfl | rfl <;> omega
 exact I1.p4 hge (I1.hok.fresh hge)
end
end L2
namespace L2
open PySem PySem.Spec PyProof.Rows
section
variable {X:Cx} {C:Addr} {x:Str} {p pos:Pos}
structure Mk0 (K:PySem.W.Frag) (C:Addr):Prop where
 makes:PySem.W.makesIn K C=true
 init:PySem.W.findIn K (.ref C) "__init__"=some (some (.builtin "object.__init__"))
 kp:PySem.W.keepIn K (.ref C)=true
def xX (C:Addr):TE:=fun _ H Q=>∀ x dx,H x=none→H dx=none→dx≠x→Q (.ref x) (upd (upd H dx (.own x)) x (.ins C dx []))
theorem za (M:Mk0 X.K C) (hg:Gl X x) (hm:X.mg x=some (.ref C)) (hdb:(x == ("__debug__":Str))=false:=by decide):PE X (.Call (.Name x p) [] [] pos) (xX C):=by
 intro pins s σ H Q I h
 refine wpAny_Call_Name_kw (nC I hg hm ?_ hdb)
 refine PySem.W.callWith_K0 I.kIn M.kp (wpAny_call ?_)
 have hq:=h (s.heap.objs.size + 1) s.heap.objs.size (I.hok.fresh (Nat.le_succ _)) (I.hok.fresh (Nat.le_refl _)) (Nat.ne_of_lt (Nat.lt_succ_self _))
 have I2:=Inv.made (C:=C) I
 have Y:=PySem.W.makes_of (M:=model X.prog X.w) I.kIn M.makes
 refine zj I.kIn M.makes M.init (fun self=>PySem.W.Looks.of_pure (PySem.W.oi_bind self)) ?_
 have e2:((s.heap.push PySem.W.emptyDict).push (PySem.W.instObj C s.heap.objs.size)).get? (s.heap.objs.size + 1)=some (PySem.W.instObj C s.heap.objs.size):=by
  have:=Heap.get?_push_size (s.heap.push PySem.W.emptyDict) (o:=PySem.W.instObj C s.heap.objs.size) rfl
  rwa [Heap.size_push] at this
 have t1:PySem.W.Looks (model X.prog X.w) ((s.heap.push PySem.W.emptyDict).push (PySem.W.instObj C s.heap.objs.size)) (typeOf (.ref (s.heap.objs.size + 1))) (.ref C):=(PySem.W.Looks.ld e2).andThen .now
 have t2:PySem.W.Looks (model X.prog X.w) ((s.heap.push PySem.W.emptyDict).push (PySem.W.instObj C s.heap.objs.size)) (isInstance (.ref (s.heap.objs.size + 1)) (.type "object")) true:=t1.andThen (Y.top.keeps fun b o e=>Heap.get?_push_of_some _ (Heap.get?_push_of_some _ e))
 refine codeAny_call_builtin PySem.W.oi_plain PySem.W.entry_oi (@PySem.W.check_slot (model X.prog X.w) _ _ _ "object.__init__" "object" "__init__" (.ref (s.heap.objs.size + 1)) [] [] _ PySem.W.oi_kind PySem.W.oi_split t2 (PySem.W.oi_args (.ref (s.heap.objs.size + 1))) ?_)
 rw[PySem.W.oi_run]
 exact wpAny_pure (And.intro rfl ⟨V.ref (s.heap.objs.size + 1),_,I2,rfl,hq⟩)
end
theorem ux {α β:Type} {f:α→Option β} {g:α→β}:∀ {l:List α},(∀ k∈l,f k=some (g k))→l.filterMap f=l.map g
 | [],_=>rfl
 | k::l,h=>by
  rw[List.filterMap_cons,h k List.mem_cons_self,List.map_cons,ux fun j hj=>h j (List.mem_cons_of_mem _ hj)]
theorem HE (ns:List Int) {k:Nat} (h:k < ns.length):(ns.map V.int)[k]?=some (V.int (ns.getD k 0)):=by
 rw[List.getElem?_map,List.getD_eq_getElem?_getD,List.getElem?_eq_getElem h]
 rfl
theorem G6 (ns:List Int):kf (ns.map V.int) (some 0) none (some 2)=(List.range ((ns.length + 1) / 2)).map fun k=>V.int (ns.getD (2 * k) 0):=by
 have e:sliceBounds (some 0) none (some 2) (ns.map V.int).length=(0,(ns.length:Int),2):=by
  simp [sliceBounds];omega
 unfold kf
 rw[e]
 have e2:sliceRange 0 (ns.length:Int) 2=(List.range ((ns.length + 1) / 2)).map fun k=>2 * k:=by
  unfold sliceRange
  have ec:(if (2:Int) > 0 then (if (0:Int) < (ns.length:Int) then ((ns.length:Int) - 0 + 2 - 1) / 2 else 0) else (if (0:Int) > (ns.length:Int) then (0 - (ns.length:Int) - 2 - 1) / (-2) else 0)).toNat=(ns.length + 1) / 2:=by
   rw[if_pos (by decide)]
   split <;> omega
  simp only[ec]
  refine List.map_congr_left fun k _=>?_
  omega
 simp only[e2,List.filterMap_map]
 refine ux fun k hk=>?_
 have:=List.mem_range.mp hk
 exact HE ns (show 2 * k < ns.length by omega)
theorem G5 (ns:List Int):kf (ns.map V.int) (some 1) none (some 2)=(List.range (ns.length / 2)).map fun k=>V.int (ns.getD (2 * k + 1) 0):=by
 have e:sliceBounds (some 1) none (some 2) (ns.map V.int).length=(min 1 (ns.length:Int),(ns.length:Int),2):=by
  simp [sliceBounds];omega
 unfold kf
 rw[e]
 have e2:sliceRange (min 1 (ns.length:Int)) (ns.length:Int) 2=(List.range (ns.length / 2)).map fun k=>2 * k + 1:=by
  unfold sliceRange
  have ec:(if (2:Int) > 0 then (if min 1 (ns.length:Int) < (ns.length:Int) then ((ns.length:Int) - min 1 (ns.length:Int) + 2 - 1) / 2 else 0) else (if min 1 (ns.length:Int) > (ns.length:Int) then (min 1 (ns.length:Int) - (ns.length:Int) - 2 - 1) / (-2) else 0)).toNat=ns.length / 2:=by
   rw[if_pos (by decide)]
   split <;> omega
  simp only[ec]
  refine List.map_congr_left fun k hk=>?_
  have:=List.mem_range.mp hk
  omega
 simp only[e2,List.filterMap_map]
 refine ux fun k hk=>?_
 have:=List.mem_range.mp hk
 exact HE ns (show 2 * k + 1 < ns.length by omega)
end L2
namespace L2
open PySem PySem.Spec PyProof.Rows
def Gz (lo c:Int) (n:Nat):It:=⟨fun i _=>i < n,fun i H x H'=>H'=H∧x=.int (lo + i * c),fun i _=>n≤i⟩
def Hi (lo hi:Int):Nat:=((hi - lo + 1) / 2).toNat
section
variable {X:Cx} {tg:Expr}
def JG (ta:TA):TI:=fun σ H R=>ta σ H fun vs H1=>∃ i j:Int,vs=[.int i,.int j,.int 2]∧(-1000000≤i∧i≤1000000∧-1000000≤j∧j≤1000000)∧R (Gz i 2 (Hi i j)) H1
end
end L2
namespace L2
open PySem PySem.Spec PyProof.Rows
end L2
namespace L2
open PySem PySem.Spec PyProof.Rows
def sgn (c:Nat):Str:=⟨#[c]⟩
def Its (x:Str):It:=⟨fun i _=>i < x.cps.size,fun i H v H'=>H'=H∧∃ c,x.cps[i]?=some c∧v=.str (sgn c),fun i _=>x.cps.size≤i⟩
theorem zV {P:Program} {w:World} {K:PySem.W.Frag} {tg:Expr} (it:Addr) (x:Str) (t:Tok):Turn P w K tg (Its x) [it] it (fun i h=>h.IsStrIter it "str_ascii_iterator" x t i) where
 mem:=by simp
 obj:=fun i h st b hb=>by
  obtain rfl:b=it:=by simpa using hb
  obtain⟨o,e,c,d⟩:=st
  exact⟨o,e,fun v z=>by rw[d] at z;cases z⟩
 keep:=fun i h h' st k=>let ⟨o,e,r⟩:=st;⟨o,k it (by simp) o e,r⟩
 item:=by
  intro X hP hw hK hc i pins s σ H E I hf st hg
  subst hP hw hK
  obtain⟨f0,f1,f2,f3,f4,f5⟩:=hf it (by simp)
  have hg':i < x.cps.size:=hg
  refine wpAny_pyNext_ascii_item st (c:=x.cps[i]) (by simp [hg']) fun h' st' sb=>?_
  have I1:Inv X pins σ H { s with heap:=h',toks:=s.toks + 1 }:=I.turned (fun b o hb e=>(sb.2 b hb).trans e) f0 f1 f3 f4 f5
  obtain⟨o,e,c,d⟩:=id st'
  exact⟨_,rfl,yu (s:={ s with heap:=h',toks:=s.toks + 1 }) e c d (by decide) ⟨.str (sgn x.cps[i]),H,I1,⟨_,rfl⟩,⟨rfl,_,by simp [hg'],rfl⟩,st',fun b hb=>(hf b hb).1⟩⟩
 done:=by
  intro X hP hw hK hc i pins s σ H E I hf st hg
  subst hP hw hK
  obtain⟨f0,f1,f2,f3,f4,f5⟩:=hf it (by simp)
  have hg':x.cps.size≤i:=hg
  exact wpAny_pyNext_ascii_end (I.ok.hd hc) st (by simpa using hg') fun h' eb=>⟨rfl,I.turned (t':=s.toks) (fun b o hb e=>eb b o hb e) f0 f1 f3 f4 f5⟩
 self:=fun _ _ _ _ _ st h=>wpAny_pyIter_striter_ascii st h
section
variable {X:Cx} {tg:Expr}
def Hw (tl:TE):TI:=fun σ H R=>tl σ H fun x H1=>∃ z,x=.str z∧z.cps.all (· < 128)=true∧R (Its z) H1
theorem Fd {l:Expr} {tl:TE} (hl:PE X l tl):PI X tg l (Hw tl):=by
 intro pins s σ H R I h
 refine thn (hl pins s σ H _ I h) fun v s1 ⟨x,H1,I1,r1,q1⟩=>?_
 obtain⟨z,rfl,ha,q⟩:=q1
 obtain⟨t,rfl⟩:=r1
 refine wpAny_pyIter_ascii ha ?_
 refine⟨s1.heap.objs.size,[s1.heap.objs.size],_,_,H1,rfl,I1.kept (t':=s1.toks) fun b o e=>Heap.get?_push_of_some _ e,zV _ z t,⟨_,Heap.get?_push_size _ rfl,rfl,rfl⟩,fun b hb=>?_,q⟩
 obtain rfl:b=s1.heap.objs.size:=by simpa using hb
 exact I1.p4 (Nat.le_refl _) (I1.hok.fresh (Nat.le_refl _))
def JF (ta:TA):TI:=fun σ H R=>ta σ H fun vs H1=>∃ i j:Int,vs=[.int i,.int j,.int (-1)]∧(-1000000≤i∧i≤1000000∧-1000000≤j∧j≤1000000)∧R (Gz i (-1) (i - j).toNat) H1
end
end L2
namespace L2
open PySem PySem.Spec PyProof.Rows
section
variable {X:Cx} {tg:Expr}
def JC:R2:=fun x y H Q=>∃ z n,x=.str z∧y=.int n∧(n=0∨n=1)∧z.length≤sizeLine∧Q (.str (if n=0 then Str.empty else z)) H
def JW:V→Option Int→Option Int→Hp→VK→Prop:=fun x lo hi H Q=>∃ z,x=.str z∧z.length≤sizeLine∧Q (.str (Txt.slice z lo hi)) H
def tokOf:Value→Option (Int×Tok)
 | .int i t=>some (i,t)
 | _=>none
def IP:V→List V→Hp→VK→Prop:=fun x vs H Q=>∃ z y,x=.str z∧vs=[.str y]∧Q (.int (Builtin.Str.occurrences z y 0 z.length (z.length + 1)).length) H
def Iq:V→List V→Hp→VK→Prop:=fun x vs H Q=>∃ l xs k y,x=.ref l∧vs=[.int k,y]∧H l=some (.lst xs)∧0≤k∧k≤xs.length∧xs.length < sizeLine∧Q .non (upd H l (.lst (xs.take k.toNat++y::xs.drop k.toNat)))
structure TyS (K:PySem.W.Frag):Prop where
 bs:PySem.W.kitOne K (.type "bool") (.type "str")=some false
 is:PySem.W.kitOne K (.type "int") (.type "str")=some false
 ns:PySem.W.kitOne K (.type "NoneType") (.type "str")=some false
 ss:PySem.W.kitOne K (.type "str") (.type "str")=some true
 ls:PySem.W.kitOne K (.type "list") (.type "str")=some false
 ts:PySem.W.kitOne K (.type "tuple") (.type "str")=some false
 ds:PySem.W.kitOne K (.type "dict") (.type "str")=some false
def isS:V→Bool
 | .str _=>true
 | _=>false
theorem BN (F:TyS X.K):ek X (.builtin "isinstance") (fun xs H Q=>∃ x,xs=[x,.ty "str"]∧Kn H x∧Q (.bl (isS x)) H):=by
 intro pins s σ H xs us Q I r h
 obtain⟨x,rfl,k,q⟩:=h
 cases k with
 | non=>exact aG I r .non F.ns rfl q
 | bl b=>exact aG I r (.bl b) F.bs rfl q
 | int i=>exact aG I r (.int i) F.is rfl q
 | str y=>exact aG I r (.str y) F.ss rfl q
 | lst e=>exact aG I r (.lst e) F.ls rfl q
 | tup e=>exact aG I r (.tup e) F.ts rfl q
 | dK e=>exact aG I r (.dK e) F.ds rfl q
end
end L2
namespace L2
open PySem PySem.Spec PyProof.Rows
section
variable {prog:Program} {w:World} {A:Around} {E:Value→Shared→Prop} {s:Shared}
abbrev JA (n:Int):Obj:={ cls:=.type "range_iterator",data:=.fields #[rawInt (n - 1),rawInt n,rawInt (-1)] }
end
section
variable {X:Cx} {tg:Expr}
def J2 (ta:TA):TI:=fun σ H R=>ta σ H fun vs H1=>∃ j:Int,vs=[.int j]∧0≤j∧j < 2 ^ 62∧R (Gz (j - 1) (-1) j.toNat) H1
end
end L2
namespace L2
open PySem PySem.Spec PyProof.Rows
section
variable {prog:Program} {w:World} {A:Around} {E:Value→Shared→Prop} {s:Shared}
structure ZsD (z TI TO i1 i2 p:Addr):Prop extends nV z TI TO i1 i2 where
 pz:p≠z
 pTO:p≠TO
 pi1:p≠i1
 pi2:p≠i2
end
end L2
namespace L2
open PySem PySem.Spec PyProof.Rows
def Jo (K:PySem.W.Frag) (x:Str) (p:Addr):It:=
 ⟨fun i H=>∃ ys y,SqT K H p ys∧i < x.cps.size∧ys[i]?=some y,
  fun i H v H'=>∃ t y c,H t=none∧(∀ ys,SqT K H p ys→ys[i]?=some y)∧x.cps[i]?=some c∧v=.ref t∧H'=upd H t (.tup [.str (sgn c),y]),
  fun i _=>x.cps.size≤i⟩
def J5 (z TI TO i1 i2:Addr) (x:Str) (tk:Tok) (p:Addr) (i:Nat) (h:Heap):Prop:=IsZip h z TI TO .none∧IsPair h TI (.ref i1) (.ref i2)∧(∃ a b,IsPair h TO a b)∧h.IsStrIter i1 "str_ascii_iterator" x tk i∧h.IsTupleIter i2 p i
section
variable {X:Cx} {pins:List (Addr×Obj)} {σ:St} {H:Hp} {s:Shared}
end
abbrev zs1 (h:Heap) (x:Str) (t:Tok):Heap:=h.push { cls:=.type "str_ascii_iterator",data:=.fields #[.str x t,.int 0 0] }
abbrev zs2 (h:Heap) (x:Str) (t:Tok) (p:Addr):Heap:=(zs1 h x t).push { cls:=.type "tuple_iterator",data:=.fields #[.ref p,.int 0 0] }
abbrev zs3 (h:Heap) (x:Str) (t:Tok) (p:Addr):Heap:=(zs2 h x t p).push { cls:=.type "tuple",data:=.seq #[.ref h.objs.size,.ref (zs1 h x t).objs.size] }
abbrev zs4 (h:Heap) (x:Str) (t:Tok) (p:Addr):Heap:=(zs3 h x t p).push { cls:=.type "tuple",data:=.seq #[.none,.none] }
abbrev zs5 (h:Heap) (x:Str) (t:Tok) (p:Addr):Heap:=(zs4 h x t p).push { cls:=.type "zip",data:=.fields #[.none,.bool false,.bool false,.ref (zs2 h x t p).objs.size,.ref (zs3 h x t p).objs.size] }
end L2
namespace L2
open PySem PySem.Spec PyProof.Rows
section
variable {prog:Program} {w:World} {A:Around} {E:Value→Shared→Prop} {s:Shared}
end
section
variable {X:Cx}
def iZs (K:PySem.W.Frag) (ta:TA):TI:=fun σ H R=>ta σ H fun vs H1=>∃ (x:Str) (q:Addr) (ys:List V),vs=[.str x,.ref q]∧x.cps.all (· < 128)=true∧SqT K H1 q ys∧R (Jo K x q) H1
end
end L2
namespace L3
open PySem L2
inductive D where
 | non | bl (b:Bool) | int (i:Int) | str (x:Str) | lst (xs:List D) | tup (xs:List D) | ktup (xs:List D) | ins (C:Addr) (ns:List Str) (xs:List D) | scr (ns:List Int) | ty (n:String) | adr (a:Addr) | cel (p:Addr) (xs:List D)
mutual
def Rep (K:PySem.W.Frag) (F:Hp):D→V→Prop
 | .non,v=>v=.non
 | .bl b,v=>v=.bl b
 | .int i,v=>v=.int i
 | .str x,v=>v=.str x
 | .ty n,v=>v=.ty n
 | .adr a,v=>v=.ref a
 | .cel p xs,v=>v=.ref p∧∃ vs,F p=some (.lst vs)∧ax K F xs vs
 | .scr ns,v=>∃ p,v=.ref p∧SqL K F p (ns.map V.int)
 | .lst xs,v=>∃ p vs,v=.ref p∧F p=some (.lst vs)∧ax K F xs vs
 | .tup xs,v=>∃ p vs,v=.ref p∧F p=some (.tup vs)∧ax K F xs vs
 | .ktup xs,v=>∃ p vs,v=.ref p∧SqT K F p vs∧ax K F xs vs
 | .ins C ns xs,v=>∃ p dx gs,v=.ref p∧F p=some (.ins C dx gs)∧gs.map (·.1)=ns∧ax K F xs (gs.map (·.2))
def ax (K:PySem.W.Frag) (F:Hp):List D→List V→Prop
 | [],vs=>vs=[]
 | x::xs,vs=>∃ v ws,vs=v::ws∧Rep K F x v∧ax K F xs ws
end
theorem SqT.same {K:PySem.W.Frag} {H H':Hp} {a:Addr} {xs:List V} (e:aP H H') (h:SqT K H a xs):SqT K H' a xs:=by
 rcases h with (h | ⟨o,h⟩) | h
 ·exact .inl (.inl (e _ _ h))
 ·exact .inl (.inr ⟨o,e _ _ h⟩)
 ·exact .inr h
mutual
theorem Rep.mono {K:PySem.W.Frag} {F F':Hp} (e:aP F F'):∀ {d:D} {v:V},Rep K F d v→Rep K F' d v
 | .non,_,h=>h
 | .bl _,_,h=>h
 | .int _,_,h=>h
 | .str _,_,h=>h
 | .ty _,_,h=>h
 | .adr _,_,h=>h
 | .cel _ _,_,⟨h1,vs,h2,h3⟩=>⟨h1,vs,e _ _ h2,ax.mono e h3⟩
 | .scr _,_,⟨p,h1,h2⟩=>⟨p,h1,e.seq h2⟩
 | .lst _,_,⟨p,vs,h1,h2,h3⟩=>⟨p,vs,h1,e _ _ h2,ax.mono e h3⟩
 | .tup _,_,⟨p,vs,h1,h2,h3⟩=>⟨p,vs,h1,e _ _ h2,ax.mono e h3⟩
 | .ktup _,_,⟨p,vs,h1,h2,h3⟩=>⟨p,vs,h1,SqT.same e h2,ax.mono e h3⟩
 | .ins _ _ _,_,⟨p,dx,gs,h1,h2,h3,h4⟩=>⟨p,dx,gs,h1,e _ _ h2,h3,ax.mono e h4⟩
theorem ax.mono {K:PySem.W.Frag} {F F':Hp} (e:aP F F'):∀ {xs:List D} {vs:List V},ax K F xs vs→ax K F' xs vs
 | [],_,h=>h
 | _::_,_,⟨v,ws,h1,h2,h3⟩=>⟨v,ws,h1,Rep.mono e h2,ax.mono e h3⟩
end
end L3
namespace L3
open PySem L2
inductive Sl where
 | fz (d:D) | ow (d:D) | ln (d:D)
abbrev G:=List (Option Sl)
inductive RV where
 | fz (d:D) | fr (d:D) | two (xs ys:List D)
def RV.d:RV→D
 | .fz d=>d
 | .fr d=>d
 | .two xs ys=>.tup [.lst xs,.lst ys]
def RV.sl:RV→Sl
 | .fz d=>.fz d
 | .fr d=>.ow d
 | .two xs ys=>.fz (.tup [.lst xs,.lst ys])
structure Bs where
 F:Hp
 H:Hp
 own:List (Nat×Addr)
def Own (K:PySem.W.Frag) (F H:Hp) (p:Addr):D→Prop
 | .lst xs=>∃ vs,H p=some (.lst vs)∧ax K F xs vs
 | .ins C ns xs=>∃ dx gs,H p=some (.ins C dx gs)∧gs.map (·.1)=ns∧ax K F xs (gs.map (·.2))
 | _=>False
theorem Own.mono {K:PySem.W.Frag} {F F' H H':Hp} {p:Addr} (e:aP F F') (h:H' p=H p):∀ {d:D},Own K F H p d→Own K F' H' p d
 | .lst _,⟨vs,a,b⟩=>⟨vs,h.trans a,b.mono e⟩
 | .ins _ _ _,⟨dx,gs,a,b,c⟩=>⟨dx,gs,h.trans a,b,c.mono e⟩
theorem Own.some {K:PySem.W.Frag} {F H:Hp} {p:Addr}:∀ {d:D},Own K F H p d→∃ o,H p=some o
 | .lst _,⟨_,a,_⟩=>⟨_,a⟩
 | .ins _ _ _,⟨_,_,a,_⟩=>⟨_,a⟩
theorem Own.rep {K:PySem.W.Frag} {F H:Hp} {p:Addr} {o:HO} (hF:F p=none) (ho:H p=Option.some o):∀ {d:D},Own K F H p d→Rep K (upd F p o) d (.ref p)
 | .lst _,⟨vs,a,b⟩=>by
  rw[ho] at a;cases a
  exact⟨p,vs,rfl,aC,b.mono fun x u e=>by rw[aj (bx e hF)];exact e⟩
 | .ins _ _ _,⟨dx,gs,a,b,c⟩=>by
  rw[ho] at a;cases a
  exact⟨p,dx,gs,rfl,aC,b,c.mono fun x u e=>by rw[aj (bx e hF)];exact e⟩
def Hld (Γ:G) (i:Nat) (d:D):Prop:=Γ[i]?=some (some (Sl.ow d))∨Γ[i]?=some (some (Sl.ln d))
structure En (K:PySem.W.Frag) (B:Bs) (F:Hp) (σ:St) (H:Hp) (Γ:G):Prop where
 sub:aP F H
 len:σ.length=Γ.length
 fz:∀ (i:Nat) (d:D),Γ[i]?=some (some (Sl.fz d))→∃ v,σ[i]?=some (some v)∧Rep K F d v
 hl:∀ (i:Nat) (d:D),Hld Γ i d→∃ p,σ[i]?=some (some (V.ref p))∧F p=none∧Own K F H p d
 ow:∀ (i:Nat) (d:D) (p:Addr),Γ[i]?=some (some (Sl.ow d))→σ[i]?=some (some (V.ref p))→B.H p=none
 ln:∀ (i:Nat) (d:D) (p:Addr),Γ[i]?=some (some (Sl.ln d))→σ[i]?=some (some (V.ref p))→(i,p)∈B.own
 dis:∀ (i j:Nat) (d e:D) (p:Addr),Hld Γ i d→Hld Γ j e→σ[i]?=some (some (V.ref p))→σ[j]?=some (some (V.ref p))→i=j
 par:∀ (i:Nat) (p:Addr),(i,p)∈B.own→σ[i]?=some (some (V.ref p))∧∃ d,Γ[i]?=some (some (Sl.ln d))
 keep:aP B.F F
 new:∀ (b:Addr) (o:HO),F b=some o→B.F b=some o∨B.H b=none
 rest:∀ (b:Addr) (o:HO),B.H b=some o→(∀ i,(i,b)∉B.own)→H b=some o
 dom:∀ b,H b=none→B.H b=none
section
variable {K:PySem.W.Frag} {B:Bs} {F:Hp} {σ:St} {H:Hp} {Γ:G}
theorem En.alloc (e:En K B F σ H Γ) {l:Addr} (hl:H l=none) (o:HO):En K B F σ (upd H l o) Γ where
 sub:=fun b u h=>by rw[aj (bx (e.sub b u h) hl)];exact e.sub b u h
 len:=e.len
 fz:=e.fz
 hl:=fun i d h=>by
  obtain⟨p,h1,h2,h3⟩:=e.hl i d h
  obtain⟨u,hu⟩:=h3.some
  exact⟨p,h1,h2,h3.mono (aP.refl F) (aj (bx hu hl))⟩
 ow:=e.ow
 ln:=e.ln
 dis:=e.dis
 par:=e.par
 keep:=e.keep
 new:=e.new
 rest:=fun b u h n=>by rw[aj (bx (e.rest b u h n) hl)];exact e.rest b u h n
 dom:=fun b h=>by
  by_cases q:b=l
  ·subst q;exact e.dom _ hl
  ·rw[aj q] at h;exact e.dom b h
theorem bQ {F:Hp} {l:Addr} {o:HO} (h:F l=none):aP F (upd F l o):=fun b u e=>by rw[aj (bx e h)];exact e
theorem En.freeze (e:En K B F σ H Γ) {l:Addr} {o:HO} (hF:F l=none) (hH:H l=some o) (hB:B.H l=none) (hn:∀ (i:Nat) (d:D),Hld Γ i d→σ[i]?≠some (some (V.ref l))):En K B (upd F l o) σ H Γ where
 sub:=fun b u h=>by
  by_cases q:b=l
  ·subst q;rw[aC] at h;cases h;exact hH
  ·rw[aj q] at h;exact e.sub b u h
 len:=e.len
 fz:=fun i d h=>by
  obtain⟨v,h1,h2⟩:=e.fz i d h
  exact⟨v,h1,h2.mono (bQ hF)⟩
 hl:=fun i d h=>by
  obtain⟨p,h1,h2,h3⟩:=e.hl i d h
  have q:p≠l:=fun z=>hn i d h (z ▸ h1)
  exact⟨p,h1,by rw[aj q];exact h2,h3.mono (bQ hF) rfl⟩
 ow:=e.ow
 ln:=e.ln
 dis:=e.dis
 par:=e.par
 keep:=e.keep.trans (bQ hF)
 new:=fun b u h=>by
  by_cases q:b=l
  ·subst q;exact .inr hB
  ·rw[aj q] at h;exact e.new b u h
 rest:=e.rest
 dom:=e.dom
def lM (K:PySem.W.Frag) (B:Bs) (F:Hp) (σ:St) (H:Hp) (Γ:G) (v:V):RV→Prop
 | .fz d=>Rep K F d v
 | .fr d=>∃ p,v=.ref p∧F p=none∧Own K F H p d∧B.H p=none∧∀ (i:Nat) (e:D),Hld Γ i e→σ[i]?≠some (some (V.ref p))
 | .two xs ys=>∃ t p q vs ws,v=.ref t∧H t=some (.tup [.ref p,.ref q])∧H p=some (.lst vs)∧H q=some (.lst ws)∧ax K F xs vs∧ax K F ys ws∧p≠q∧∀ z,z=t∨z=p∨z=q→F z=none∧B.H z=none∧∀ (i:Nat) (e:D),Hld Γ i e→σ[i]?≠some (some (V.ref z))
theorem En.frozen (e:En K B F σ H Γ) {v:V}:∀ {r:RV},lM K B F σ H Γ v r→∃ F',aP F F'∧En K B F' σ H Γ∧Rep K F' r.d v
 | .fz d,h=>⟨F,aP.refl F,e,h⟩
 | .fr d,⟨p,hv,h1,h2,h3,h4⟩=>by
  subst hv
  obtain⟨o,ho⟩:=h2.some
  exact⟨upd F p o,bQ h1,e.freeze h1 ho h3 h4,h2.rep h1 ho⟩
 | .two xs ys,⟨t,p,q,vs,ws,hv,h1,h2,h3,h4,h5,h6,h7⟩=>by
  subst hv
  obtain⟨a1,a2,a3⟩:=h7 t (.inl rfl)
  obtain⟨b1,b2,b3⟩:=h7 p (.inr (.inl rfl))
  obtain⟨c1,c2,c3⟩:=h7 q (.inr (.inr rfl))
  have tp:t≠p:=fun z=>by rw[z,h2] at h1;cases h1
  have tq:t≠q:=fun z=>by rw[z,h3] at h1;cases h1
  have e1:=e.freeze b1 h2 b2 b3
  have f2:upd F p (.lst vs) q=none:=by rw[aj (Ne.symm h6)];exact c1
  have e2:=e1.freeze f2 h3 c2 c3
  have f3:upd (upd F p (.lst vs)) q (.lst ws) t=none:=by rw[aj tq,aj tp];exact a1
  have e3:=e2.freeze f3 h1 a2 a3
  have s1:=bQ (o:=.lst vs) b1
  have s2:=bQ (o:=.lst ws) f2
  have s3:=bQ (o:=.tup [.ref p,.ref q]) f3
  exact⟨_,(s1.trans s2).trans s3,e3,t,_,rfl,aC,⟨_,_,rfl,⟨p,vs,rfl,by rw[aj (Ne.symm tp),aj h6];exact aC,(h4.mono ((s1.trans s2).trans s3))⟩,_,_,rfl,⟨q,ws,rfl,by rw[aj (Ne.symm tq)];exact aC,h5.mono ((s1.trans s2).trans s3)⟩,rfl⟩⟩
theorem En.norm (e:En K B F σ H Γ) {v:V}:∀ {r:RV},lM K B F σ H Γ v r→∃ F' r',aP F F'∧En K B F' σ H Γ∧lM K B F' σ H Γ v r'∧r'.sl=r.sl∧∀ xs ys,r'≠.two xs ys
 | .fz d,h=>⟨F,.fz d,aP.refl F,e,h,rfl,nofun⟩
 | .fr d,h=>⟨F,.fr d,aP.refl F,e,h,rfl,nofun⟩
 | .two xs ys,h=>by
  obtain⟨F',s,e',r⟩:=e.frozen h
  exact⟨F',.fz (.tup [.lst xs,.lst ys]),s,e',r,rfl,nofun⟩
def Po (K:PySem.W.Frag) (B:Bs) (F:Hp) (σ:St) (Q:RV→G→Prop):VK:=fun v H'=>∃ F' Γ' r,aP F F'∧En K B F' σ H' Γ'∧lM K B F' σ H' Γ' v r∧Q r Γ'
abbrev TE3:=G→(RV→G→Prop)→Prop
def Ref (K:PySem.W.Frag) (t:TE) (t3:TE3):Prop:=∀ (B:Bs) (F:Hp) (σ:St) (H:Hp) (Γ:G) (Q:RV→G→Prop) (QQ:VK),En K B F σ H Γ→t3 Γ Q→(∀ v H',Po K B F σ Q v H'→QQ v H')→t σ H QQ
theorem Po.mono {F F':Hp} {Q:RV→G→Prop} {v:V} {H:Hp} (s:aP F F') (h:Po K B F' σ Q v H):Po K B F σ Q v H:=by
 obtain⟨F2,Γ',r,a,b⟩:=h
 exact⟨F2,Γ',r,s.trans a,b⟩
theorem iT (e:En K B F σ H Γ) {Q:RV→G→Prop} {v:V} {d:D} (r:Rep K F d v) (q:Q (.fz d) Γ):Po K B F σ Q v H:=⟨F,Γ,.fz d,aP.refl F,e,r,q⟩
theorem En.vE (e:En K B F σ H Γ) {l:Addr} (hl:H l=none):∀ (i:Nat) (d:D),Hld Γ i d→σ[i]?≠some (some (V.ref l)):=fun i d h z=>by
 obtain⟨p,h1,h2,h3⟩:=e.hl i d h
 rw[h1] at z;cases z
 obtain⟨o,ho⟩:=h3.some
 rw[hl] at ho;cases ho
theorem En.nof (e:En K B F σ H Γ) {l:Addr} (hl:H l=none):F l=none:=by
 cases q:F l with
 | none=>rfl
 | some o=>have:=e.sub _ _ q;rw[hl] at this;cases this
theorem jw (e:En K B F σ H Γ) {Q:RV→G→Prop} {l:Addr} {vs:List V} {xs:List D} (hl:H l=none) (r:ax K F xs vs) (q:Q (.fr (.lst xs)) Γ):Po K B F σ Q (.ref l) (upd H l (.lst vs)):=
 ⟨F,Γ,.fr (.lst xs),aP.refl F,e.alloc hl _,⟨l,rfl,e.nof hl,⟨vs,aC,r⟩,e.dom _ hl,e.vE hl⟩,q⟩
theorem ya (e:En K B F σ H Γ) {Q:RV→G→Prop} {l:Addr} {vs:List V} {xs:List D} (hl:H l=none) (r:ax K F xs vs) (q:Q (.fz (.tup xs)) Γ):Po K B F σ Q (.ref l) (upd H l (.tup vs)):=
 ⟨upd F l (.tup vs),Γ,.fz (.tup xs),bQ (e.nof hl),(e.alloc hl _).freeze (e.nof hl) aC (e.dom _ hl) (e.vE hl),⟨l,vs,rfl,aC,r.mono (bQ (e.nof hl))⟩,q⟩
def sg (i:Nat) (Γ:G) (Q:RV→G→Prop):Prop:=match Γ[i]? with
 | some (some (.fz d))=>Q (.fz d) Γ
 | some (some (.ow d))=>Q (.fz d) (Γ.set i (some (Sl.fz d)))
 | _=>False
theorem bJ {α:Type} {l:List α} {i j:Nat} {a:α} (h:i≠j):(l.set i a)[j]?=l[j]?:=by rw[List.getElem?_set,if_neg h]
theorem qM {α:Type} {l:List α} {i:Nat} {a b:α} (h:l[i]?=some b):(l.set i a)[i]?=some a:=by
 rw[List.getElem?_set,if_pos rfl,if_pos (List.getElem?_eq_some_iff.mp h).1]
theorem En.give (e:En K B F σ H Γ) {i:Nat} {d:D} (h:Γ[i]?=some (some (Sl.ow d))):∃ F' p,aP F F'∧σ[i]?=some (some (V.ref p))∧Rep K F' d (.ref p)∧En K B F' σ H (Γ.set i (some (Sl.fz d))):=by
 obtain⟨p,h1,h2,h3⟩:=e.hl i d (.inl h)
 obtain⟨o,ho⟩:=h3.some
 have hr:=h3.rep h2 ho
 have back:∀ {j u},j≠i→(Γ.set i (some (Sl.fz d)))[j]?=u→Γ[j]?=u:=fun hj q=>by rw[bJ (Ne.symm hj)] at q;exact q
 have hld:∀ {j x},Hld (Γ.set i (some (Sl.fz d))) j x→j≠i∧Hld Γ j x:=fun {j x} q=>by
  by_cases z:j=i
  ·subst z
   rcases q with q | q <;> rw[qM h] at q <;> cases q
  ·exact⟨z,q.imp (back z) (back z)⟩
 refine⟨upd F p o,p,bQ h2,h1,hr,?_,?_,?_,?_,?_,?_,?_,?_,?_,?_,e.rest,e.dom⟩
 ·intro b u q
  by_cases z:b=p
  ·subst z;rw[aC] at q;cases q;exact ho
  ·rw[aj z] at q;exact e.sub b u q
 ·rw[List.length_set];exact e.len
 ·intro j x q
  by_cases z:j=i
  ·subst z
   rw[qM h] at q;cases q
   exact⟨_,h1,hr⟩
  ·obtain⟨v,a,b⟩:=e.fz j x (back z q)
   exact⟨v,a,b.mono (bQ h2)⟩
 ·intro j x q
  obtain⟨z,q⟩:=hld q
  obtain⟨p',a,b,c⟩:=e.hl j x q
  have ne:p'≠p:=fun y=>z (e.dis j i x d p q (.inl h) (y ▸ a) h1)
  exact⟨p',a,by rw[aj ne];exact b,c.mono (bQ h2) rfl⟩
 ·intro j x p' q a
  obtain⟨z,_⟩:=hld (.inl q)
  exact e.ow j x p' (back z q) a
 ·intro j x p' q a
  obtain⟨z,_⟩:=hld (.inr q)
  exact e.ln j x p' (back z q) a
 ·intro j k x y p' q1 q2
  exact e.dis j k x y p' (hld q1).2 (hld q2).2
 ·intro j p' q
  obtain⟨a,y,b⟩:=e.par j p' q
  have z:j≠i:=fun z=>by subst z;rw[h] at b;cases b
  exact⟨a,y,by rw[bJ (Ne.symm z)];exact b⟩
 ·exact e.keep.trans (bQ h2)
 ·intro b u q
  by_cases z:b=p
  ·subst z;exact .inr (e.ow i d _ h h1)
  ·rw[aj z] at q;exact e.new b u q
theorem Cw (i:Nat):Ref K (fH i) (sg i):=by
 intro B F σ H Γ Q QQ e h k
 unfold sg at h
 split at h
 ·rename_i d q
  obtain⟨v,h1,h2⟩:=e.fz i d q
  exact⟨v,h1,k _ _ (iT e h2 h)⟩
 ·rename_i d q
  obtain⟨F',p,s,h1,h2,e'⟩:=e.give q
  exact⟨_,h1,k _ _ ⟨F',_,.fz d,s,e',h2,h⟩⟩
 ·exact h.elim
def t3C (d:D) (Γ:G) (Q:RV→G→Prop):Prop:=Q (.fz d) Γ
theorem sx {v:V} {d:D} (h:∀ F,Rep K F d v):Ref K (tC v) (t3C d):=fun B F σ H Γ Q QQ e q k=>k _ _ (iT e (h F) q)
inductive Bo where
 | d (x:D) | v (i:Nat)
def Gat (Γ:G) (i:Nat):Option D:=match Γ[i]? with
 | some (some (.fz d))=>some d
 | some (some (.ow d))=>some d
 | some (some (.ln d))=>some d
 | _=>none
def Bo.at (Γ:G):Bo→Option D
 | .d x=>some x
 | .v i=>Gat Γ i
def pB (K:PySem.W.Frag) (F:Hp) (σ:St):Bo→V→Prop
 | .d x,v=>Rep K F x v
 | .v i,v=>σ[i]?=some (some v)
def hZ (K:PySem.W.Frag) (F H:Hp):D→V→Prop
 | .lst xs,v=>∃ p vs,v=.ref p∧H p=some (.lst vs)∧ax K F xs vs
 | .ins C ns xs,v=>∃ p dx gs,v=.ref p∧H p=some (.ins C dx gs)∧gs.map (·.1)=ns∧ax K F xs (gs.map (·.2))
 | d,v=>Rep K F d v
theorem Rep.b {K:PySem.W.Frag} {F H:Hp} (s:aP F H):∀ {d:D} {v:V},Rep K F d v→hZ K F H d v
 | .non,_,h=>h
 | .bl _,_,h=>h
 | .int _,_,h=>h
 | .str _,_,h=>h
 | .ty _,_,h=>h
 | .adr _,_,h=>h
 | .cel _ _,_,h=>h
 | .scr _,_,h=>h
 | .tup _,_,h=>h
 | .ktup _,_,h=>h
 | .lst _,_,⟨p,vs,h1,h2,h3⟩=>⟨p,vs,h1,s _ _ h2,h3⟩
 | .ins _ _ _,_,⟨p,dx,gs,h1,h2,h3,h4⟩=>⟨p,dx,gs,h1,s _ _ h2,h3,h4⟩
theorem Own.b {K:PySem.W.Frag} {F H:Hp} {p:Addr}:∀ {d:D},Own K F H p d→hZ K F H d (.ref p)
 | .lst _,⟨vs,h1,h2⟩=>⟨p,vs,rfl,h1,h2⟩
 | .ins _ _ _,⟨dx,gs,h1,h2,h3⟩=>⟨p,dx,gs,rfl,h1,h2,h3⟩
theorem pB.mono {F F':Hp} (s:aP F F'):∀ {bo:Bo} {v:V},pB K F σ bo v→pB K F' σ bo v
 | .d _,_,h=>Rep.mono s h
 | .v _,_,h=>h
theorem En.get (e:En K B F σ H Γ) {i:Nat} {d:D} (h:Gat Γ i=some d):∃ v,σ[i]?=some (some v)∧hZ K F H d v:=by
 unfold Gat at h
 split at h
 ·cases h
  rename_i q
  obtain⟨v,h1,h2⟩:=e.fz i _ q
  exact⟨v,h1,h2.b e.sub⟩
 ·cases h
  rename_i q
  obtain⟨p,h1,h2,h3⟩:=e.hl i _ (.inl q)
  exact⟨_,h1,h3.b⟩
 ·cases h
  rename_i q
  obtain⟨p,h1,h2,h3⟩:=e.hl i _ (.inr q)
  exact⟨_,h1,h3.b⟩
 ·cases h
theorem En.bo (e:En K B F σ H Γ):∀ {bo:Bo} {v:V} {d:D},pB K F σ bo v→bo.at Γ=some d→hZ K F H d v
 | .d x,v,d,h,q=>by cases q;exact Rep.b e.sub h
 | .v i,v,d,h,q=>by
  obtain⟨u,h1,h2⟩:=e.get q
  rw[show σ[i]?=some (some v) from h] at h1
  cases h1
  exact h2
abbrev TB3:=G→(Bo→G→Prop)→Prop
def PoB (K:PySem.W.Frag) (B:Bs) (F:Hp) (σ:St) (Q:Bo→G→Prop):VK:=fun v H'=>∃ F' Γ' bo,aP F F'∧En K B F' σ H' Γ'∧pB K F' σ bo v∧Q bo Γ'
def rB (K:PySem.W.Frag) (t:TE) (t3:TB3):Prop:=∀ (B:Bs) (F:Hp) (σ:St) (H:Hp) (Γ:G) (Q:Bo→G→Prop) (QQ:VK),En K B F σ H Γ→t3 Γ Q→(∀ v H',PoB K B F σ Q v H'→QQ v H')→t σ H QQ
def bor (i:Nat) (Γ:G) (Q:Bo→G→Prop):Prop:=(∃ d,Gat Γ i=some d)∧Q (.v i) Γ
def bof (a3:TE3) (Γ:G) (Q:Bo→G→Prop):Prop:=a3 Γ fun x Γ1=>Q (.d x.d) Γ1
theorem Ah (i:Nat):rB K (fH i) (bor i):=by
 intro B F σ H Γ Q QQ e ⟨⟨d,hd⟩,q⟩ k
 obtain⟨v,h1,_⟩:=e.get hd
 exact⟨v,h1,k _ _ ⟨F,Γ,.v i,aP.refl F,e,h1,q⟩⟩
theorem Cv {t:TE} {a3:TE3} (h:Ref K t a3):rB K t (bof a3):=by
 intro B F σ H Γ Q QQ e q k
 refine h B F σ H Γ _ _ e q (fun v H1 ⟨F1,Γ1,x,s1,e1,r1,q1⟩=>?_)
 obtain⟨F1',s1',e1',r1'⟩:=e1.frozen r1
 exact k _ _ ⟨F1',Γ1,.d x.d,s1.trans s1',e1',r1',q1⟩
def lU (K:PySem.W.Frag) (r:R2) (op:D→D→TE3):Prop:=∀ (B:Bs) (F:Hp) (σ:St) (H:Hp) (Γ:G) (x y:V) (dx dy:D) (Q:RV→G→Prop) (QQ:VK),En K B F σ H Γ→hZ K F H dx x→hZ K F H dy y→op dx dy Γ Q→(∀ v H',Po K B F σ Q v H'→QQ v H')→r x y H QQ
def pO (op:D→D→TE3) (a3 b3:TB3) (Γ:G) (Q:RV→G→Prop):Prop:=a3 Γ fun x Γ1=>b3 Γ1 fun y Γ2=>∃ dx dy,x.at Γ2=some dx∧y.at Γ2=some dy∧op dx dy Γ2 Q
theorem jv {r:R2} {ta tb:TE} {a3 b3:TB3} {op:D→D→TE3} (h:lU K r op) (ha:rB K ta a3) (hb:rB K tb b3):Ref K (tOp r ta tb) (pO op a3 b3):=by
 intro B F σ H Γ Q QQ e q k
 refine ha B F σ H Γ _ _ e q (fun v H1 ⟨F1,Γ1,x,s1,e1,r1,q1⟩=>?_)
 refine hb B F1 σ H1 Γ1 _ _ e1 q1 (fun u H2 ⟨F2,Γ2,y,s2,e2,r2,dx,dy,h1,h2,q2⟩=>?_)
 exact h B F2 σ H2 Γ2 v u dx dy Q QQ e2 (e2.bo (r1.mono s2) h1) (e2.bo r2 h2) q2 fun z H3 p=>k z H3 (p.mono (s1.trans s2))
def z0 (op:D→TE3) (a3:TB3) (Γ:G) (Q:RV→G→Prop):Prop:=a3 Γ fun x Γ1=>∃ dx,x.at Γ1=some dx∧op dx Γ1 Q
def Ic (K:PySem.W.Frag) (r:V→Hp→VK→Prop) (op:D→TE3):Prop:=∀ (B:Bs) (F:Hp) (σ:St) (H:Hp) (Γ:G) (x:V) (dx:D) (Q:RV→G→Prop) (QQ:VK),En K B F σ H Γ→hZ K F H dx x→op dx Γ Q→(∀ v H',Po K B F σ Q v H'→QQ v H')→r x H QQ
theorem Ak {r:V→Hp→VK→Prop} {ta:TE} {a3:TB3} {op:D→TE3} (h:Ic K r op) (ha:rB K ta a3):Ref K (fun σ H Q=>ta σ H fun x H1=>r x H1 Q) (z0 op a3):=by
 intro B F σ H Γ Q QQ e q k
 refine ha B F σ H Γ _ _ e q (fun v H1 ⟨F1,Γ1,x,s1,e1,r1,dx,h1,q1⟩=>?_)
 exact h B F1 σ H1 Γ1 v dx Q QQ e1 (e1.bo r1 h1) q1 fun z H3 p=>k z H3 (p.mono s1)
end
end L3
namespace L3
open PySem L2 PySem.Spec PyProof.Rows
structure P3 (K:PySem.W.Frag) (X:Cx) (e:Expr) (t:TE) (t3:TE3):Prop where
 pe:PE X e t
 rf:Ref K t t3
structure P3B (K:PySem.W.Frag) (X:Cx) (e:Expr) (t:TE) (t3:TB3):Prop where
 pe:PE X e t
 rf:rB K t t3
section
variable {K:PySem.W.Frag} {X:Cx} {a b c:Expr} {ta tb tc:TE} {a3 b3 c3:TB3} {pos:Pos}
theorem P3.opd {e3:TE3} (h:P3 K X a ta e3):P3B K X a ta (bof e3):=⟨h.pe,Cv h.rf⟩
theorem bv (i:Nat) {x:Str} {pos:Pos} (hN:X.N[i]?=some x:=by rfl) (hv:Vis X.env.scope x:=by first | exact Or.inl rfl | exact Or.inr (Or.inl rfl) | exact Or.inr (Or.inr rfl)) (hd:(x == ("__debug__":Str))=false:=by decide)
  (hcd:(x == ("__classdict__":Str))=false:=by decide):P3B K X (.Name x pos) (fH i) (bor i):=⟨qy hN hv hd hcd,Ah i⟩
theorem gR {B:Bs} {F:Hp} {σ:L2.St} {H:Hp} {Γ:G} {Q:RV→G→Prop} {i:Int} (e:En K B F σ H Γ) (q:Q (.fz (.int i)) Γ):Po K B F σ Q (.int i) H:=iT (d:=.int i) e rfl q
theorem wV {B:Bs} {F:Hp} {σ:L2.St} {H:Hp} {Γ:G} {Q:RV→G→Prop} {i:Str} (e:En K B F σ H Γ) (q:Q (.fz (.str i)) Γ):Po K B F σ Q (.str i) H:=iT (d:=.str i) e rfl q
theorem qw {B:Bs} {F:Hp} {σ:L2.St} {H:Hp} {Γ:G} {Q:RV→G→Prop} {i:Bool} (e:En K B F σ H Γ) (q:Q (.fz (.bl i)) Γ):Po K B F σ Q (.bl i) H:=iT (d:=.bl i) e rfl q
theorem p3v (i:Nat) {x:Str} {pos:Pos} (hN:X.N[i]?=some x:=by rfl) (hv:Vis X.env.scope x:=by first | exact Or.inl rfl | exact Or.inr (Or.inl rfl) | exact Or.inr (Or.inr rfl)) (hd:(x == ("__debug__":Str))=false:=by decide)
  (hcd:(x == ("__classdict__":Str))=false:=by decide):P3 K X (.Name x pos) (fH i) (sg i):=⟨qy hN hv hd hcd,Cw i⟩
theorem af {i j pos}:P3 K X (.Constant (.int i) j pos) (tC (.int i)) (t3C (.int i)):=⟨wZ,sx fun _=>rfl⟩
theorem gj {i j pos}:P3 K X (.Constant (.bool i) j pos) (tC (.bl i)) (t3C (.bl i)):=⟨G_,sx fun _=>rfl⟩
theorem iC {x j pos}:P3 K X (.Constant (.str x) j pos) (tC (.str x)) (t3C (.str x)):=⟨Ff,sx fun _=>rfl⟩
theorem jy {x:Str} {i:Int} {pos:Pos} (hg:Gl X x) (hm:∃ t,X.mg x=some (.int i t)) (hd:(x == ("__debug__":Str))=false:=by decide):P3 K X (.Name x pos) (tC (.int i)) (t3C (.int i)):=
 ⟨let ⟨t,hm⟩:=hm;yb (v:=.int i) hg hm ⟨t,rfl⟩ hd,sx fun _=>rfl⟩
theorem lZ {x y v:Int} {j k:Nat} {pos pos' pos'':Pos} (h:x ^ y.toNat=v) (hc:B_ x y):P3 K X (.BinOp (.Constant (.int x) j pos') .Pow (.Constant (.int y) k pos'') pos) (tOp (rI B_ fun i j=>.int (i ^ j.toNat)) (tC (.int x)) (tC (.int y))) (t3C (.int v)):=
 ⟨qz AK wZ wZ,fun B F σ H Γ Q QQ e q k=>⟨x,y,rfl,rfl,hc,by show QQ (.int (x ^ y.toNat)) H;rw[h];exact k _ _ (gR e q)⟩⟩
def i2 (C:Int→Int→Prop) (f:Int→Int→D) (x y:D) (Γ:G) (Q:RV→G→Prop):Prop:=match x,y with
 | .int i,.int j=>C i j∧Q (.fz (f i j)) Γ
 | _,_=>False
def i2' (f:Int→Int→D) (x y:D) (Γ:G) (Q:RV→G→Prop):Prop:=match x,y with
 | .int i,.int j=>Q (.fz (f i j)) Γ
 | _,_=>False
theorem opI {C:Int→Int→Prop} {f:Int→Int→D} {g:Int→Int→V} (h:∀ F i j,Rep K F (f i j) (g i j)):lU K (rI C g) (i2 C f):=by
 intro B F σ H Γ x y dx dy Q QQ e rx ry q k
 unfold i2 at q
 split at q
 ·cases rx;cases ry
  exact⟨_,_,rfl,rfl,q.1,k _ _ (iT e (h F _ _) q.2)⟩
 ·exact q.elim
theorem xa {f:Int→Int→D} {g:Int→Int→V} (h:∀ F i j,Rep K F (f i j) (g i j)):lU K (rI0 g) (i2' f):=by
 intro B F σ H Γ x y dx dy Q QQ e rx ry q k
 unfold i2' at q
 split at q
 ·cases rx;cases ry
  exact⟨_,_,rfl,rfl,k _ _ (iT e (h F _ _) q)⟩
 ·exact q.elim
def zJ (x y:D) (Γ:G) (Q:RV→G→Prop):Prop:=match x,y with
 | .int i,.int j=>Q (.fz (.int (i + j))) Γ
 | .lst xs,.lst ys=>xs.length + ys.length≤sizeLine∧Q (.fr (.lst (xs++ys))) Γ
 | .str i,.str j=>i.length + j.length≤sizeLine∧Q (.fz (.str (i++j))) Γ
 | _,_=>False
theorem ax.length {F:Hp}:∀ {xs:List D} {vs:List V},ax K F xs vs→vs.length=xs.length
 | [],_,h=>by cases h;rfl
 | _::_,_,⟨v,ws,h1,h2,h3⟩=>by subst h1;simp [h3.length]
theorem ax.append {F:Hp}:∀ {xs ys:List D} {vs ws:List V},ax K F xs vs→ax K F ys ws→ax K F (xs++ys) (vs++ws)
 | [],_,_,_,h,h'=>by cases h;exact h'
 | _::_,_,_,_,⟨v,ws,h1,h2,h3⟩,h'=>by subst h1;exact⟨v,_,rfl,h2,h3.append h'⟩
theorem ax.get {F:Hp}:∀ {xs:List D} {vs:List V},ax K F xs vs→∀ {i:Nat} {d:D},xs[i]?=some d→∃ v,vs[i]?=some v∧Rep K F d v
 | [],_,_,i,d,e=>by simp at e
 | x::xs,_,⟨v,ws,h1,h2,h3⟩,0,d,e=>by subst h1;simp at e;subst e;exact⟨v,rfl,h2⟩
 | x::xs,_,⟨v,ws,h1,h2,h3⟩,i + 1,d,e=>by
  subst h1
  obtain⟨u,a,b⟩:=h3.get (i:=i) (d:=d) (by simpa using e)
  exact⟨u,by simpa using a,b⟩
theorem ax.Du {F:Hp}:∀ {xs:List D} {vs:List V},ax K F xs vs→∀ {i:Nat} {v:V},vs[i]?=some v→∃ d,xs[i]?=some d∧Rep K F d v:=fun {xs vs} h {i v} e=>by
 have hi:i < vs.length:=(List.getElem?_eq_some_iff.mp e).1
 rw[h.length] at hi
 obtain⟨u,a,b⟩:=h.get (List.getElem?_eq_getElem hi)
 rw[e] at a;cases a
 exact⟨_,List.getElem?_eq_getElem hi,b⟩
theorem ax.take {F:Hp}:∀ {xs:List D} {vs:List V} (n:Nat),ax K F xs vs→ax K F (xs.take n) (vs.take n)
 | _,_,0,_=>by simp [ax]
 | [],_,n + 1,h=>by cases h;simp [ax]
 | x::xs,_,n + 1,⟨v,ws,h1,h2,h3⟩=>by subst h1;exact⟨v,_,rfl,h2,ax.take n h3⟩
theorem ax.drop {F:Hp}:∀ {xs:List D} {vs:List V} (n:Nat),ax K F xs vs→ax K F (xs.drop n) (vs.drop n)
 | _,_,0,h=>h
 | [],_,n + 1,h=>by cases h;simp [ax]
 | x::xs,_,n + 1,⟨v,ws,h1,h2,h3⟩=>by subst h1;exact ax.drop n h3
theorem ax.set {F:Hp} {d:D} {v:V} (r:Rep K F d v):∀ {xs:List D} {vs:List V} (n:Nat),ax K F xs vs→ax K F (xs.set n d) (vs.set n v)
 | [],_,_,h=>by cases h;simp [ax]
 | x::xs,_,0,⟨u,ws,h1,h2,h3⟩=>by subst h1;exact⟨v,ws,rfl,r,h3⟩
 | x::xs,_,n + 1,⟨u,ws,h1,h2,h3⟩=>by subst h1;exact⟨u,_,rfl,h2,ax.set r n h3⟩
theorem ax.ints {F:Hp}:∀ (ns:List Int),ax K F (ns.map D.int) (ns.map V.int)
 | []=>rfl
 | n::ns=>⟨_,_,rfl,rfl,ax.ints ns⟩
theorem ax.gW {F:Hp}:∀ {ns:List Int} {vs:List V},ax K F (ns.map D.int) vs→vs=ns.map V.int
 | [],_,h=>h
 | n::ns,_,⟨v,ws,h1,h2,h3⟩=>by
  rw[h1,ax.gW h3]
  have:v=.int n:=h2
  rw[this];rfl
abbrev CD:R2:=fun x y H Q=>rI0 (fun i j=>.int (i + j)) x y H Q∨G2 x y H Q∨(∃ i j,x=.str i∧y=.str j∧i.length + j.length≤sizeLine∧Q (.str (i++j)) H)
theorem C7:OpR X (binaryOp .Add) CD:=Fu.or (Ft.or w_)
theorem addRef:lU K CD zJ:=by
 intro B F σ H Γ x y dx dy Q QQ e rx ry q k
 unfold zJ at q
 split at q
 ·cases rx;cases ry
  exact .inl ⟨_,_,rfl,rfl,k _ _ (gR e q)⟩
 ·obtain⟨p,vs,rfl,h1,h2⟩:=rx
  obtain⟨p',ws,rfl,h3,h4⟩:=ry
  refine .inr (.inl ⟨p,p',vs,ws,rfl,rfl,h1,h3,by rw[h2.length,h4.length];exact q.1,fun l hl=>k _ _ (jw e hl (h2.append h4) q.2)⟩)
 ·cases rx;cases ry
  exact .inr (.inr ⟨_,_,rfl,rfl,q.1,k _ _ (wV e q.2)⟩)
 ·exact q.elim
theorem br (ha:P3B K X a ta a3) (hb:P3B K X b tb b3):P3 K X (.BinOp a .Add b pos) (tOp CD ta tb) (pO zJ a3 b3):=⟨qz C7 ha.pe hb.pe,jv addRef ha.rf hb.rf⟩
theorem da (ha:P3B K X a ta a3) (hb:P3B K X b tb b3):P3 K X (.BinOp a .Sub b pos) (tOp (rI0 fun i j=>.int (i - j)) ta tb) (pO (i2' fun i j=>.int (i - j)) a3 b3):=⟨qz Fn ha.pe hb.pe,jv (xa fun _ _ _=>rfl) ha.rf hb.rf⟩
theorem fI (ha:P3B K X a ta a3) (hb:P3B K X b tb b3):P3 K X (.BinOp a .Mult b pos) (tOp (rI Ca fun i j=>.int (i * j)) ta tb) (pO (i2 Ca fun i j=>.int (i * j)) a3 b3):=⟨qz Fp ha.pe hb.pe,jv (opI fun _ _ _=>rfl) ha.rf hb.rf⟩
theorem eu (ha:P3B K X a ta a3) (hb:P3B K X b tb b3):P3 K X (.BinOp a .FloorDiv b pos) (tOp (rI GA fun i j=>.int (i / j)) ta tb) (pO (i2 GA fun i j=>.int (i / j)) a3 b3):=⟨qz C6 ha.pe hb.pe,jv (opI fun _ _ _=>rfl) ha.rf hb.rf⟩
theorem oa (ha:P3B K X a ta a3) (hb:P3B K X b tb b3):P3 K X (.BinOp a .Mod b pos) (tOp (rI (fun _ j=>0 < j) fun i j=>.int (i % j)) ta tb) (pO (i2 (fun _ j=>0 < j) fun i j=>.int (i % j)) a3 b3):=⟨qz Fq ha.pe hb.pe,jv (opI fun _ _ _=>rfl) ha.rf hb.rf⟩
theorem CZ (ha:P3B K X a ta a3) (hb:P3B K X b tb b3):P3 K X (.BinOp a .Pow b pos) (tOp (rI B_ fun i j=>.int (i ^ j.toNat)) ta tb) (pO (i2 B_ fun i j=>.int (i ^ j.toNat)) a3 b3):=⟨qz AK ha.pe hb.pe,jv (opI fun _ _ _=>rfl) ha.rf hb.rf⟩
def zA (f:Int→Int→Bool) (x y:D) (Γ:G) (Q:RV→G→Prop):Prop:=i2' (fun i j=>.bl (f i j)) x y Γ Q
abbrev qP (i j:Int):Bool:=decide (i < j)
abbrev oF (i j:Int):Bool:=decide (i≤j)
abbrev qR (i j:Int):Bool:=decide (j < i)
abbrev J4 (i j:Int):Bool:=decide (j≤i)
structure C3 (K:PySem.W.Frag) (X:Cx) (op:CmpOp) (r:R2) (o3:D→D→TE3):Prop where
 op:OpR X (compareOp op) r
 rf:lU K r o3
theorem sQ:C3 K X .Lt (rI0 fun i j=>.bl (decide (i < j))) (zA qP):=⟨Hd,xa fun _ _ _=>rfl⟩
theorem q9:C3 K X .LtE (rI0 fun i j=>.bl (decide (i≤j))) (zA oF):=⟨He,xa fun _ _ _=>rfl⟩
theorem BX:C3 K X .Gt (rI0 fun i j=>.bl (decide (j < i))) (zA qR):=⟨Hf,xa fun _ _ _=>rfl⟩
def eqS:D→D→Option Bool
 | .int i,.int j=>some (decide (i=j))
 | .str i,.str j=>some (decide (i=j))
 | .bl i,.bl j=>some (decide (i=j))
 | .non,.non=>some true
 | .int _,.str _=>some false
 | .str _,.int _=>some false
 | .bl _,.str _=>some false
 | .str _,.bl _=>some false
 | .non,.int _=>some false
 | .int _,.non=>some false
 | .non,.str _=>some false
 | .str _,.non=>some false
 | .non,.bl _=>some false
 | .bl _,.non=>some false
 | _,_=>none
def eq3 (neg:Bool) (x y:D) (Γ:G) (Q:RV→G→Prop):Prop:=match eqS x y with
 | some k=>Q (.fz (.bl (neg ^^ k))) Γ
 | none=>False
theorem fJ {op:CmpOp} {r:R2} {o3:D→D→TE3} (h:C3 K X op r o3) (ha:P3B K X a ta a3) (hb:P3B K X b tb b3) (hm:behindInMarks op b=false):P3 K X (.Compare a [op] [b] pos) (tOp r ta tb) (pO o3 a3 b3):=⟨CQ h.op ha.pe hb.pe hm,jv h.rf ha.rf hb.rf⟩
def lh (o3 o3':D→D→TE3) (a3 b3 c3:TB3) (Γ:G) (Q:RV→G→Prop):Prop:=a3 Γ fun x Γ1=>b3 Γ1 fun y Γ2=>∃ dx dy,x.at Γ2=some dx∧y.at Γ2=some dy∧o3 dx dy Γ2 fun z Γ3=>match z with
 | .fz (.bl true)=>c3 Γ3 fun w Γ4=>∃ dy dw,y.at Γ4=some dy∧w.at Γ4=some dw∧o3' dy dw Γ4 Q
 | .fz (.bl false)=>Q (.fz (.bl false)) Γ3
 | _=>False
theorem sv {r r':R2} {o3 o3':D→D→TE3} (h:lU K r o3) (h':lU K r' o3') (ha:rB K ta a3) (hb:rB K tb b3) (hc:rB K tc c3):Ref K (ql r r' ta tb tc) (lh o3 o3' a3 b3 c3):=by
 intro B F σ H Γ Q QQ e q k
 refine ha B F σ H Γ _ _ e q (fun v H1 ⟨F1,Γ1,x,s1,e1,r1,q1⟩=>?_)
 refine hb B F1 σ H1 Γ1 _ _ e1 q1 (fun u H2 ⟨F2,Γ2,y,s2,e2,r2,dx,dy,h1,h2,q2⟩=>?_)
 refine h B F2 σ H2 Γ2 v u dx dy _ _ e2 (e2.bo (r1.mono s2) h1) (e2.bo r2 h2) q2 fun z H3 ⟨F3,Γ3,z3,s3,e3,r3,q3⟩=>?_
 have sall:=(s1.trans s2).trans s3
 revert r3 q3
 split
 ·intro r3 q3
  refine⟨true,r3,?_⟩
  rw[if_pos rfl]
  refine hc B F3 σ H3 Γ3 _ _ e3 q3 (fun w H4 ⟨F4,Γ4,w3,s4,e4,r4,dy,dw,h3,h4,q4⟩=>?_)
  exact h' B F4 σ H4 Γ4 u w dy dw Q QQ e4 (e4.bo (r2.mono (s3.trans s4)) h3) (e4.bo r4 h4) q4 fun z H5 p=>k z H5 (p.mono (sall.trans s4))
 ·intro r3 q3
  refine⟨false,r3,?_⟩
  rw[if_neg (by simp)]
  exact k _ _ (Po.mono sall (qw e3 q3))
 ·intro _ q3;exact q3.elim
theorem AH {op op':CmpOp} {r r':R2} {o3 o3':D→D→TE3} (h:C3 K X op r o3) (h':C3 K X op' r' o3') (ha:P3B K X a ta a3) (hb:P3B K X b tb b3) (hc:P3B K X c tc c3) (hm:lastMarks [op,op'] [b,c]=false:=by with_unfolding_all rfl) :
  P3 K X (.Compare a [op,op'] [b,c] pos) (ql r r' ta tb tc) (lh o3 o3' a3 b3 c3):=⟨AB h.op h'.op ha.pe hb.pe hc.pe hm,sv h.rf h'.rf ha.rf hb.rf hc.rf⟩
def AV (x:D) (Γ:G) (Q:RV→G→Prop):Prop:=match x with
 | .int i=>Q (.fz (.int (-i))) Γ
 | _=>False
theorem kh (ha:P3B K X a ta a3):P3 K X (.UnaryOp .USub a pos) (tUn (rU fun i=>.int (-i)) ta) (z0 AV a3):=⟨G7 EC ha.pe,Ak (r:=rU fun i=>.int (-i)) (ta:=ta) (by
 intro B F σ H Γ x dx Q QQ e rx q k
 unfold AV at q
 split at q
 ·cases rx
  exact⟨_,rfl,k _ _ (gR e q)⟩
 ·exact q.elim) ha.rf⟩
end
end L3
namespace L3
open PySem L2 PySem.Spec
abbrev TT3:=G→(Bool→G→Prop)→Prop
def PoT (K:PySem.W.Frag) (B:Bs) (F:Hp) (σ:L2.St) (Q:Bool→G→Prop):Bool→Hp→Prop:=fun b H'=>∃ F' Γ',aP F F'∧En K B F' σ H' Γ'∧Q b Γ'
def p8 (K:PySem.W.Frag) (t:TT) (t3:TT3):Prop:=∀ (B:Bs) (F:Hp) (σ:L2.St) (H:Hp) (Γ:G) (Q:Bool→G→Prop) (QQ:Bool→Hp→Prop),En K B F σ H Γ→t3 Γ Q→(∀ b H',PoT K B F σ Q b H'→QQ b H')→t σ H QQ
structure P3T (K:PySem.W.Frag) (X:Cx) (e:Expr) (t:TT) (t3:TT3):Prop where
 pe:PT X e t
 rf:p8 K t t3
structure P3W (K:PySem.W.Frag) (X:Cx) (e:Expr) (t:TT) (t3:TT3):Prop where
 pe:PW X e t
 rf:p8 K t t3
section
variable {K:PySem.W.Frag} {X:Cx} {a b c:Expr} {ta tb tc:TE} {a3 b3 c3:TE3} {a3' b3' c3':TB3} {pos:Pos} {tA tB':TT} {A3 B3:TT3} {rest:List Expr}
def tst (a3:TE3) (Γ:G) (Q:Bool→G→Prop):Prop:=a3 Γ fun x Γ1=>match x.d with
 | .bl k=>Q k Γ1
 | _=>False
theorem PoT.mono {B:Bs} {F F':Hp} {σ:L2.St} {H:Hp} {Q:Bool→G→Prop} {k:Bool} (s:aP F F') (h:PoT K B F' σ Q k H):PoT K B F σ Q k H:=by
 obtain⟨F2,Γ',a,b⟩:=h
 exact⟨F2,Γ',s.trans a,b⟩
theorem Ap (h:Ref K ta a3):p8 K (fun σ H Q=>ta σ H fun x H1=>∃ c,x=.bl c∧Q c H1) (tst a3):=by
 intro B F σ H Γ Q QQ e q k
 refine h B F σ H Γ _ _ e q (fun v H1 ⟨F1,Γ1,x,s1,e1,r1,q1⟩=>?_)
 obtain⟨F1',s1',e1',r1'⟩:=e1.frozen r1
 revert r1' q1
 split
 ·rename_i hz
  intro q1 r1'
  rw[hz] at r1'
  exact⟨_,r1',k _ _ ⟨F1',Γ1,s1.trans s1',e1',q1⟩⟩
 ·intro q1;exact q1.elim
theorem cc {e:Expr} {t:TE} {e3:TE3} (h:P3 K X e t e3) (he:∀ whole,isTrue e X.env whole=(do let v ← whole;standAt e.pos;holding [v] (truthy v)):=by intro _;rfl):P3T K X e (tB t) (tst e3):=⟨EZ h.pe he,Ap h.rf⟩
theorem b9 {op:CmpOp} {r:R2} {o3:D→D→TE3} (h:C3 K X op r o3) (ha:P3B K X a ta a3') (hb:P3B K X b tb b3') (hm:behindInMarks op b=false):P3T K X (.Compare a [op] [b] pos) (xV (tOp r ta tb)) (tst (pO o3 a3' b3')):=
 ⟨CG h.op ha.pe hb.pe hm,Ap (jv h.rf ha.rf hb.rf)⟩
theorem zc {op op':CmpOp} {r r':R2} {o3 o3':D→D→TE3} (h:C3 K X op r o3) (h':C3 K X op' r' o3') (ha:P3B K X a ta a3') (hb:P3B K X b tb b3') (hc:P3B K X c tc c3') (hm:lastMarks [op,op'] [b,c]=false:=by with_unfolding_all rfl) :
  P3T K X (.Compare a [op,op'] [b,c] pos) (xV (ql r r' ta tb tc)) (tst (lh o3 o3' a3' b3' c3')):=⟨Au h.op h'.op ha.pe hb.pe hc.pe hm,Ap (sv h.rf h'.rf ha.rf hb.rf hc.rf)⟩
def DO (A3 B3:TT3) (Γ:G) (Q:Bool→G→Prop):Prop:=A3 Γ fun c Γ1=>match c with
 | true=>B3 Γ1 Q
 | false=>Q false Γ1
def or3 (A3 B3:TT3) (Γ:G) (Q:Bool→G→Prop):Prop:=A3 Γ fun c Γ1=>match c with
 | true=>Q true Γ1
 | false=>B3 Γ1 Q
def Dc (A3:TT3) (Γ:G) (Q:Bool→G→Prop):Prop:=A3 Γ fun c Γ1=>Q (!c) Γ1
theorem CC (ha:p8 K tA A3) (hb:p8 K tB' B3):p8 K (EH tA tB') (DO A3 B3):=by
 intro B F σ H Γ Q QQ e q k
 refine ha B F σ H Γ _ _ e q (fun c H1 ⟨F1,Γ1,s1,e1,q1⟩=>?_)
 cases c with
 | true=>exact zr (hb B F1 σ H1 Γ1 _ _ e1 q1 fun c H2 p=>k _ _ (p.mono s1))
 | false=>exact zt (k _ _ ⟨F1,Γ1,s1,e1,q1⟩)
theorem EU (ha:p8 K tA A3) (hb:p8 K tB' B3):p8 K (tOr tA tB') (or3 A3 B3):=by
 intro B F σ H Γ Q QQ e q k
 refine ha B F σ H Γ _ _ e q (fun c H1 ⟨F1,Γ1,s1,e1,q1⟩=>?_)
 cases c with
 | true=>exact zr (k _ _ ⟨F1,Γ1,s1,e1,q1⟩)
 | false=>exact zt (hb B F1 σ H1 Γ1 _ _ e1 q1 fun c H2 p=>k _ _ (p.mono s1))
theorem Cy (ha:p8 K tA A3):p8 K (EG tA) (Dc A3):=by
 intro B F σ H Γ Q QQ e q k
 exact ha B F σ H Γ _ _ e q (fun c H1 ⟨F1,Γ1,s1,e1,q1⟩=>k _ _ ⟨F1,Γ1,s1,e1,q1⟩)
theorem vw (ha:P3T K X a tA A3):P3W K X (.BoolOp .And [a] pos) tA A3:=⟨CF ha.pe,ha.rf⟩
theorem lr (ha:P3T K X a tA A3):P3W K X (.BoolOp .Or [a] pos) tA A3:=⟨EX ha.pe,ha.rf⟩
theorem yc (ha:P3T K X a tA A3) (hb:P3W K X (.BoolOp .And (b::rest) pos) tB' B3):P3W K X (.BoolOp .And (a::b::rest) pos) (EH tA tB') (DO A3 B3):=⟨EY ha.pe hb.pe,CC ha.rf hb.rf⟩
theorem n9 (ha:P3T K X a tA A3) (hb:P3W K X (.BoolOp .Or (b::rest) pos) tB' B3):P3W K X (.BoolOp .Or (a::b::rest) pos) (tOr tA tB') (or3 A3 B3):=⟨G3 ha.pe hb.pe,EU ha.rf hb.rf⟩
theorem P3W.pt {e:Expr} (h:P3W K X e tA A3):P3T K X e tA A3:=⟨h.pe.pt,h.rf⟩
theorem cf (ha:P3T K X a tA A3):P3T K X (.UnaryOp .Not a pos) (EG tA) (Dc A3):=⟨E2 ha.pe,Cy ha.rf⟩
def yK (a3 b3'':TE3) (Γ:G) (Q:RV→G→Prop):Prop:=a3 Γ fun x Γ1=>match x.d with
 | .bl true=>b3'' Γ1 Q
 | .bl false=>Q (.fz (.bl false)) Γ1
 | _=>False
def C5 (a3 b3'':TE3) (Γ:G) (Q:RV→G→Prop):Prop:=a3 Γ fun x Γ1=>match x.d with
 | .bl true=>Q (.fz (.bl true)) Γ1
 | .bl false=>b3'' Γ1 Q
 | _=>False
def AO (a3:TE3) (Γ:G) (Q:RV→G→Prop):Prop:=a3 Γ fun x Γ1=>match x.d with
 | .bl k=>Q (.fz (.bl (!k))) Γ1
 | _=>False
theorem w6 {op} (h:P3 K X a ta a3):P3 K X (.BoolOp op [a] pos) ta a3:=⟨Fg h.pe,h.rf⟩
theorem Fm (ha:P3 K X a ta a3) (hb:P3 K X (.BoolOp .And (b::rest) pos) tb b3):P3 K X (.BoolOp .And (a::b::rest) pos) (DX ta tb) (yK a3 b3):=⟨Fl ha.pe hb.pe,by
 intro B F σ H Γ Q QQ e q k
 refine ha.rf B F σ H Γ _ _ e q (fun v H1 ⟨F1,Γ1,x,s1,e1,r1,q1⟩=>?_)
 obtain⟨F1',s1',e1',r1'⟩:=e1.frozen r1
 revert r1' q1
 split
 ·rename_i hz
  intro q1 r1'
  rw[hz] at r1'
  exact⟨true,r1',zr (hb.rf B F1' σ H1 Γ1 _ _ e1' q1 fun v H2 p=>k _ _ (p.mono (s1.trans s1')))⟩
 ·rename_i hz
  intro q1 r1'
  rw[hz] at r1'
  exact⟨false,r1',zt (k _ _ (Po.mono (s1.trans s1') (qw e1' q1)))⟩
 ·intro q1;exact q1.elim⟩
theorem D0 (ha:P3 K X a ta a3) (hb:P3 K X (.BoolOp .Or (b::rest) pos) tb b3):P3 K X (.BoolOp .Or (a::b::rest) pos) (GH ta tb) (C5 a3 b3):=⟨G8 ha.pe hb.pe,by
 intro B F σ H Γ Q QQ e q k
 refine ha.rf B F σ H Γ _ _ e q (fun v H1 ⟨F1,Γ1,x,s1,e1,r1,q1⟩=>?_)
 obtain⟨F1',s1',e1',r1'⟩:=e1.frozen r1
 revert r1' q1
 split
 ·rename_i hz
  intro q1 r1'
  rw[hz] at r1'
  exact⟨true,r1',zr (k _ _ (Po.mono (s1.trans s1') (qw e1' q1)))⟩
 ·rename_i hz
  intro q1 r1'
  rw[hz] at r1'
  exact⟨false,r1',zt (hb.rf B F1' σ H1 Γ1 _ _ e1' q1 fun v H2 p=>k _ _ (p.mono (s1.trans s1')))⟩
 ·intro q1;exact q1.elim⟩
def if3 (A3:TT3) (a3 b3:TE3) (Γ:G) (Q:RV→G→Prop):Prop:=A3 Γ fun c Γ1=>match c with
 | true=>a3 Γ1 Q
 | false=>b3 Γ1 Q
end
abbrev TA3:=G→(List D→G→Prop)→Prop
def PoA (K:PySem.W.Frag) (B:Bs) (F:Hp) (σ:L2.St) (Q:List D→G→Prop):List V→Hp→Prop:=fun vs H'=>∃ F' Γ' ds,aP F F'∧En K B F' σ H' Γ'∧ax K F' ds vs∧Q ds Γ'
def Ih (K:PySem.W.Frag) (t:TA) (t3:TA3):Prop:=∀ (B:Bs) (F:Hp) (σ:L2.St) (H:Hp) (Γ:G) (Q:List D→G→Prop) (QQ:List V→Hp→Prop),En K B F σ H Γ→t3 Γ Q→(∀ vs H',PoA K B F σ Q vs H'→QQ vs H')→t σ H QQ
structure P3A (K:PySem.W.Frag) (X:Cx) (es:List Expr) (t:TA) (t3:TA3):Prop where
 pe:PA X es t
 rf:Ih K t t3
section
variable {K:PySem.W.Frag} {X:Cx} {e:Expr} {es:List Expr} {te:TE} {e3:TE3} {t:TA} {t3:TA3} {pos:Pos}
def ze (Γ:G) (Q:List D→G→Prop):Prop:=Q [] Γ
def kP (e3:TE3) (t3:TA3) (Γ:G) (Q:List D→G→Prop):Prop:=e3 Γ fun x Γ1=>t3 Γ1 fun xs Γ2=>Q (x.d::xs) Γ2
theorem aA:P3A K X [] mM ze:=⟨lY,fun B F σ H Γ Q QQ e q k=>k _ _ ⟨F,Γ,[],aP.refl F,e,rfl,q⟩⟩
theorem ag (ha:P3 K X e te e3) (hr:P3A K X es t t3) (hs:starEach (e::es) X.env=(false,eval e X.env)::starEach es X.env:=by rfl):P3A K X (e::es) (iN te t) (kP e3 t3):=⟨f_ ha.pe hr.pe hs,by
 intro B F σ H Γ Q QQ e q k
 refine ha.rf B F σ H Γ _ _ e q (fun v H1 ⟨F1,Γ1,x,s1,e1,r1,q1⟩=>?_)
 obtain⟨F1',s1',e1',r1'⟩:=e1.frozen r1
 refine hr.rf B F1' σ H1 Γ1 _ _ e1' q1 (fun vs H2 ⟨F2,Γ2,ds,s2,e2,r2,q2⟩=>?_)
 exact k _ _ ⟨F2,Γ2,x.d::ds,(s1.trans s1').trans s2,e2,⟨v,vs,rfl,r1'.mono s2,r2⟩,q2⟩⟩
def FD (t3:TA3) (Γ:G) (Q:RV→G→Prop):Prop:=t3 Γ fun xs Γ1=>xs.length≤sizeLine∧Q (.fr (.lst xs)) Γ1
def yX (t3:TA3) (Γ:G) (Q:RV→G→Prop):Prop:=t3 Γ fun xs Γ1=>xs.length≤sizeLine∧Q (.fz (.tup xs)) Γ1
theorem ck (h:P3A K X es t t3):P3 K X (.List es pos) (GI t) (FD t3):=⟨Fh h.pe,by
 intro B F σ H Γ Q QQ e q k
 refine h.rf B F σ H Γ _ _ e q (fun vs H1 ⟨F1,Γ1,ds,s1,e1,r1,q1⟩=>?_)
 exact⟨by rw[r1.length];exact q1.1,fun p hp=>k _ _ (Po.mono s1 (jw e1 hp r1 q1.2))⟩⟩
theorem n_ {x1} (h:P3A K X es t t3):P3 K X (.Tuple es x1 pos) (Cg t) (yX t3):=⟨wX h.pe,by
 intro B F σ H Γ Q QQ e q k
 refine h.rf B F σ H Γ _ _ e q (fun vs H1 ⟨F1,Γ1,ds,s1,e1,r1,q1⟩=>?_)
 exact⟨by rw[r1.length];exact q1.1,fun p hp=>k _ _ (Po.mono s1 (ya e1 hp r1 q1.2))⟩⟩
end
abbrev jm:=G→(List Bo→G→Prop)→Prop
def dc (K:PySem.W.Frag) (F:Hp) (σ:L2.St):List Bo→List V→Prop
 | [],vs=>vs=[]
 | b::bs,vs=>∃ v ws,vs=v::ws∧pB K F σ b v∧dc K F σ bs ws
def pC (K:PySem.W.Frag) (F H:Hp):List D→List V→Prop
 | [],vs=>vs=[]
 | d::ds,vs=>∃ v ws,vs=v::ws∧hZ K F H d v∧pC K F H ds ws
def ats (Γ:G):List Bo→Option (List D)
 | []=>some []
 | b::bs=>match b.at Γ,ats Γ bs with
  | some d,some ds=>some (d::ds)
  | _,_=>none
def Jm (K:PySem.W.Frag) (B:Bs) (F:Hp) (σ:L2.St) (Q:List Bo→G→Prop):List V→Hp→Prop:=fun vs H'=>∃ F' Γ' bs,aP F F'∧En K B F' σ H' Γ'∧dc K F' σ bs vs∧Q bs Γ'
def yM (K:PySem.W.Frag) (t:TA) (t3:jm):Prop:=∀ (B:Bs) (F:Hp) (σ:L2.St) (H:Hp) (Γ:G) (Q:List Bo→G→Prop) (QQ:List V→Hp→Prop),En K B F σ H Γ→t3 Γ Q→(∀ vs H',Jm K B F σ Q vs H'→QQ vs H')→t σ H QQ
structure wx (K:PySem.W.Frag) (X:Cx) (es:List Expr) (t:TA) (t3:jm):Prop where
 pe:PA X es t
 rf:yM K t t3
section
variable {K:PySem.W.Frag} {X:Cx} {e:Expr} {es:List Expr} {te:TE} {e3:TB3} {t:TA} {t3:jm} {pos:Pos} {B:Bs} {F H:Hp} {σ:L2.St} {Γ:G}
theorem En.bos (e:En K B F σ H Γ):∀ {bs:List Bo} {vs:List V} {ds:List D},dc K F σ bs vs→ats Γ bs=some ds→pC K F H ds vs
 | [],_,_,h,q=>by cases q;exact h
 | b::bs,_,_,⟨v,ws,h1,h2,h3⟩,q=>by
  unfold ats at q
  split at q
  ·rename_i d ds hd hds
   cases q
   exact⟨v,ws,h1,e.bo h2 hd,e.bos h3 hds⟩
  ·cases q
def AS (Γ:G) (Q:List Bo→G→Prop):Prop:=Q [] Γ
def BH (e3:TB3) (t3:jm) (Γ:G) (Q:List Bo→G→Prop):Prop:=e3 Γ fun x Γ1=>t3 Γ1 fun xs Γ2=>Q (x::xs) Γ2
theorem ae:wx K X [] mM AS:=⟨lY,fun B F σ H Γ Q QQ e q k=>k _ _ ⟨F,Γ,[],aP.refl F,e,rfl,q⟩⟩
theorem aa (ha:P3B K X e te e3) (hr:wx K X es t t3) (hs:starEach (e::es) X.env=(false,eval e X.env)::starEach es X.env:=by rfl):wx K X (e::es) (iN te t) (BH e3 t3):=⟨f_ ha.pe hr.pe hs,by
 intro B F σ H Γ Q QQ e q k
 refine ha.rf B F σ H Γ _ _ e q (fun v H1 ⟨F1,Γ1,x,s1,e1,r1,q1⟩=>?_)
 refine hr.rf B F1 σ H1 Γ1 _ _ e1 q1 (fun vs H2 ⟨F2,Γ2,ds,s2,e2,r2,q2⟩=>?_)
 exact k _ _ ⟨F2,Γ2,x::ds,s1.trans s2,e2,⟨v,vs,rfl,r1.mono s2,r2⟩,q2⟩⟩
def yQ (K:PySem.W.Frag) (r:List V→Hp→VK→Prop) (c3:List D→TE3):Prop:=∀ (B:Bs) (F:Hp) (σ:L2.St) (H:Hp) (Γ:G) (vs:List V) (ds:List D) (Q:RV→G→Prop) (QQ:VK),En K B F σ H Γ→pC K F H ds vs→c3 ds Γ Q→(∀ v H',Po K B F σ Q v H'→QQ v H')→r vs H QQ
def wa (c3:List D→TE3) (t3:jm) (Γ:G) (Q:RV→G→Prop):Prop:=t3 Γ fun bs Γ1=>∃ ds,ats Γ1 bs=some ds∧c3 ds Γ1 Q
theorem Ao {r:List V→Hp→VK→Prop} {c3:List D→TE3} (h:yQ K r c3) (ha:yM K t t3):Ref K (tCB r t) (wa c3 t3):=by
 intro B F σ H Γ Q QQ e q k
 refine ha B F σ H Γ _ _ e q (fun vs H1 ⟨F1,Γ1,bs,s1,e1,r1,ds,hd,q1⟩=>?_)
 exact h B F1 σ H1 Γ1 vs ds Q QQ e1 (e1.bos r1 hd) q1 fun v H2 p=>k _ _ (p.mono s1)
structure B3 (K:PySem.W.Frag) (X:Cx) (f:Value) (r:List V→Hp→VK→Prop) (c3:List D→TE3):Prop where
 op:ek X f r
 rf:yQ K r c3
variable {x:Str} {p:Pos} {id T:String} {r:List V→Hp→VK→Prop} {c3:List D→TE3}
theorem aB (hc:B3 K X (.builtin id) r c3) (hg:Gl X x) (hm:X.mg x=none) (hv:bootBuiltins x=some (.builtin id)) (ha:wx K X (e::es) t t3) (hn:x≠"__name__":=by decide) (hdb:(x == ("__debug__":Str))=false:=by decide)
  (he:starEach (e::es) X.env=(false,eval e X.env)::starEach es X.env:=by rfl) (hpl:(backTo pos (starEach es X.env)).any (·.1)=false:=by rfl):P3 K X (.Call (.Name x p) (e::es) [] pos) (tCB r t) (wa c3 t3):=
 ⟨AD hc.op hg hm hv ha.pe hn hdb he hpl,Ao hc.rf ha.rf⟩
theorem bZ (hc:B3 K X (.type T) r c3) (hg:Gl X x) (hm:X.mg x=none) (hv:bootBuiltins x=some (.type T)) (ha:wx K X (e::es) t t3) (hn:x≠"__name__":=by decide) (hdb:(x == ("__debug__":Str))=false:=by decide)
  (he:starEach (e::es) X.env=(false,eval e X.env)::starEach es X.env:=by rfl) (hpl:(backTo pos (starEach es X.env)).any (·.1)=false:=by rfl):P3 K X (.Call (.Name x p) (e::es) [] pos) (tCB r t) (wa c3 t3):=
 ⟨zb hc.op hg hm hv ha.pe hn hdb he hpl,Ao hc.rf ha.rf⟩
def B9 (ds:List D) (Γ:G) (Q:RV→G→Prop):Prop:=match ds with
 | [.int i]=>Q (.fz (.int (if i < 0 then -i else i))) Γ
 | _=>False
def mx3 (f:Int→Int→Int) (ds:List D) (Γ:G) (Q:RV→G→Prop):Prop:=match ds with
 | [.int i,.int j]=>Q (.fz (.int (f i j))) Γ
 | _=>False
theorem pC.one {d:D} {vs:List V} (h:pC K F H [d] vs):∃ v,vs=[v]∧hZ K F H d v:=by
 obtain⟨v,ws,rfl,h1,h2⟩:=h
 cases h2
 exact⟨v,rfl,h1⟩
theorem pC.two {d e:D} {vs:List V} (h:pC K F H [d,e] vs):∃ v w,vs=[v,w]∧hZ K F H d v∧hZ K F H e w:=by
 obtain⟨v,ws,rfl,h1,h2⟩:=h
 obtain⟨w,rfl,h3⟩:=pC.one h2
 exact⟨v,w,rfl,h1,h3⟩
theorem HW:B3 K X (.builtin "abs") (fun xs H Q=>∃ i,xs=[.int i]∧Q (.int (if i < 0 then -i else i)) H) B9:=⟨BR,by
 intro B F σ H Γ vs ds Q QQ e r q k
 unfold B9 at q
 split at q
 ·obtain⟨v,rfl,h⟩:=r.one
  cases h
  exact⟨_,rfl,k _ _ (gR e q)⟩
 ·exact q.elim⟩
abbrev fmax (i j:Int):Int:=if j > i then j else i
abbrev fmin (i j:Int):Int:=if j < i then j else i
theorem BW (hc:X.calm=true):B3 K X (.builtin "max") (fun xs H Q=>∃ i j,xs=[.int i,.int j]∧Q (.int (if j > i then j else i)) H) (mx3 fmax):=⟨zC hc,by
 intro B F σ H Γ vs ds Q QQ e r q k
 unfold mx3 at q
 split at q
 ·obtain⟨v,w,rfl,h,h'⟩:=r.two
  cases h;cases h'
  exact⟨_,_,rfl,k _ _ (gR e q)⟩
 ·exact q.elim⟩
theorem Ew (hc:X.calm=true):B3 K X (.builtin "min") (fun xs H Q=>∃ i j,xs=[.int i,.int j]∧Q (.int (if j < i then j else i)) H) (mx3 fmin):=⟨zB hc,by
 intro B F σ H Γ vs ds Q QQ e r q k
 unfold mx3 at q
 split at q
 ·obtain⟨v,w,rfl,h,h'⟩:=r.two
  cases h;cases h'
  exact⟨_,_,rfl,k _ _ (gR e q)⟩
 ·exact q.elim⟩
def A_ (ds:List D) (Γ:G) (Q:RV→G→Prop):Prop:=match ds with
 | [.int i]=>Q (.fz (.int i)) Γ
 | [.bl k]=>Q (.fz (.int (if k then 1 else 0))) Γ
 | _=>False
theorem HU:B3 K X (.type "int") (fun xs H Q=>(∃ i,xs=[.int i]∧Q (.int i) H)∨∃ k,xs=[.bl k]∧Q (.int (if k then 1 else 0)) H) A_:=⟨zD,by
 intro B F σ H Γ vs ds Q QQ e r q k
 unfold A_ at q
 split at q
 ·obtain⟨v,rfl,h⟩:=r.one
  cases h
  exact .inl ⟨_,rfl,k _ _ (gR e q)⟩
 ·obtain⟨v,rfl,h⟩:=r.one
  cases h
  exact .inr ⟨_,rfl,k _ _ (gR e q)⟩
 ·exact q.elim⟩
def zq:D→Option Nat
 | .lst xs=>some xs.length
 | .tup xs=>some xs.length
 | .ktup xs=>some xs.length
 | .scr ns=>some ns.length
 | _=>none
def A5 (ds:List D) (Γ:G) (Q:RV→G→Prop):Prop:=match ds with
 | [.str z]=>z.length≤sizeLine∧Q (.fz (.int z.length)) Γ
 | [d]=>∃ n,zq d=some n∧Q (.fz (.int n)) Γ
 | _=>False
abbrev IM (K:PySem.W.Frag):List V→Hp→VK→Prop:=fun xs H Q=>(∃ p ys,xs=[.ref p]∧(SqL K H p ys∨SqT K H p ys)∧Q (.int ys.length) H)∨(∃ z,xs=[.str z]∧z.length≤sizeLine∧Q (.int z.length) H)
theorem ek.or' {f:Value} {r r':List V→Hp→VK→Prop} (h:ek X f r) (h':ek X f r'):ek X f (fun xs H Q=>r xs H Q∨r' xs H Q):=by
 intro pins s σ H xs us Q I rx q
 rcases q with q | q
 ·exact h pins s σ H xs us Q I rx q
 ·exact h' pins s σ H xs us Q I rx q
theorem Dn {d:D} {v:V} {n:Nat} (s:aP F H) (h:hZ K F H d v) (hn:zq d=some n):∃ p ys,v=.ref p∧(SqL K H p ys∨SqT K H p ys)∧ys.length=n:=by
 unfold zq at hn
 split at hn
 ·cases hn
  obtain⟨p,vs,rfl,h1,h2⟩:=h
  exact⟨p,vs,rfl,.inl (SqL.of h1),h2.length⟩
 ·cases hn
  obtain⟨p,vs,rfl,h1,h2⟩:=h
  exact⟨p,vs,rfl,.inr (.inl (.inl (s _ _ h1))),h2.length⟩
 ·cases hn
  obtain⟨p,vs,rfl,h1,h2⟩:=h
  exact⟨p,vs,rfl,.inr (SqT.same s h1),h2.length⟩
 ·cases hn
  obtain⟨p,rfl,h1⟩:=h
  exact⟨p,_,rfl,.inl (s.seq h1),by simp⟩
 ·cases hn
theorem dn (hK:X.K=K):B3 K X (.builtin "len") (IM K) A5:=⟨by subst hK;exact ek.or' uN uM,by
 intro B F σ H Γ vs ds Q QQ e r q k
 unfold A5 at q
 split at q
 ·obtain⟨v,rfl,h⟩:=r.one
  cases h
  exact .inr ⟨_,rfl,q.1,k _ _ (gR e q.2)⟩
 ·obtain⟨v,rfl,h⟩:=r.one
  obtain⟨n,hn,q⟩:=q
  obtain⟨p,ys,rfl,hs,hl⟩:=Dn e.sub h hn
  subst hl
  exact .inl ⟨p,ys,rfl,hs,k _ _ (gR e q)⟩
 ·exact q.elim⟩
end
end L3
namespace L3
open PySem L2 PySem.Spec
section
variable {K:PySem.W.Frag} {X:Cx} {a b c:Expr} {ta tb tc:TE} {a3 b3 c3:TB3} {pos:Pos} {B:Bs} {F H:Hp} {σ:L2.St} {Γ:G}
theorem ax.atI {xs:List D} {vs:List V} (h:ax K F xs vs) {i:Int} {d:D} (e:atI xs i=some d):∃ v,L2.atI vs i=some v∧Rep K F d v:=by
 unfold L2.atI at e ⊢
 rw[h.length]
 cases q:ixN xs.length i with
 | none=>rw[q] at e;cases e
 | some j=>
  rw[q] at e
  exact h.get e
def ix3 (x y:D) (Γ:G) (Q:RV→G→Prop):Prop:=match x,y with
 | .lst xs,.int i=>∃ d,atI xs i=some d∧Q (.fz d) Γ
 | .tup xs,.int i=>∃ d,atI xs i=some d∧Q (.fz d) Γ
 | .ktup xs,.int i=>∃ d,atI xs i=some d∧Q (.fz d) Γ
 | .scr ns,.int i=>∃ n,atI ns i=some n∧Q (.fz (.int n)) Γ
 | .str z,.int i=>z.length≤sizeLine∧∃ c,atI z.cps.toList i=some c∧Q (.fz (.str ⟨#[c]⟩)) Γ
 | _,_=>False
theorem yJ {α β:Type} {f:α→β} {xs:List α} {i:Int} {d:α} (e:atI xs i=some d):atI (xs.map f) i=some (f d):=by
 unfold L2.atI at e ⊢
 rw[List.length_map]
 cases q:ixN xs.length i with
 | none=>rw[q] at e;cases e
 | some j=>
  rw[q] at e
  show (xs.map f)[j]?=_
  rw[List.getElem?_map,show xs[j]?=some d from e]
  rfl
theorem Hm:lU K (rIx K) ix3:=by
 intro B F σ H Γ x y dx dy Q QQ e rx ry q k
 unfold ix3 at q
 split at q
 ·obtain⟨d,hd,q⟩:=q
  obtain⟨p,vs,rfl,h1,h2⟩:=rx
  cases ry
  obtain⟨v,hv,r⟩:=h2.atI hd
  exact .inl ⟨p,vs,_,v,rfl,rfl,SqL.of h1,hv,k _ _ (iT e r q)⟩
 ·obtain⟨d,hd,q⟩:=q
  obtain⟨p,vs,rfl,h1,h2⟩:=rx
  cases ry
  obtain⟨v,hv,r⟩:=h2.atI hd
  exact .inr (.inl ⟨p,vs,_,v,rfl,rfl,.inl (.inl (e.sub _ _ h1)),hv,k _ _ (iT e r q)⟩)
 ·obtain⟨d,hd,q⟩:=q
  obtain⟨p,vs,rfl,h1,h2⟩:=rx
  cases ry
  obtain⟨v,hv,r⟩:=h2.atI hd
  exact .inr (.inl ⟨p,vs,_,v,rfl,rfl,SqT.same e.sub h1,hv,k _ _ (iT e r q)⟩)
 ·obtain⟨d,hd,q⟩:=q
  obtain⟨p,rfl,h1⟩:=rx
  cases ry
  exact .inl ⟨p,_,_,.int d,rfl,rfl,e.sub.seq h1,yJ hd,k _ _ (gR e q)⟩
 ·cases rx;cases ry
  obtain⟨hz,c,hc,q⟩:=q
  exact .inr (.inr ⟨_,_,c,rfl,rfl,hz,hc,k _ _ (wV e q)⟩)
 ·exact q.elim
theorem cu (hK:X.K=K) (ha:P3B K X a ta a3) (hb:P3B K X b tb b3) (hs:yN b):P3 K X (.Subscript a b pos) (tOp (rIx K) ta tb) (pO ix3 a3 b3):=⟨G9 (by subst hK;exact FN) ha.pe hb.pe hs,jv Hm ha.rf hb.rf⟩
def cut {α:Type} (xs:List α) (lo hi:Option Int):List α:=(xs.drop (HT.sIx xs.length 0 lo)).take (HT.sIx xs.length xs.length hi - HT.sIx xs.length 0 lo)
def pk {α:Type} (xs:List α) (lo hi st:Option Int):List α:=(sliceRange (sliceBounds lo hi st xs.length).1 (sliceBounds lo hi st xs.length).2.1 (sliceBounds lo hi st xs.length).2.2).filterMap (xs[·]?)
theorem ax.cut {xs:List D} {vs:List V} (h:ax K F xs vs) (lo hi:Option Int):ax K F (cut xs lo hi) (xN vs lo hi):=by
 unfold L3.cut xN
 rw[h.length]
 exact(h.drop _).take _
theorem ax.places {xs:List D} {vs:List V} (h:ax K F xs vs):∀ js:List Nat,ax K F (js.filterMap (xs[·]?)) (js.filterMap (vs[·]?))
 | []=>rfl
 | j::js=>by
  have ih:=h.places js
  cases hn:xs[j]? with
  | some x=>
   obtain⟨u,hu,r⟩:=h.get hn
   simp only[List.filterMap_cons,hn,hu]
   exact⟨u,_,rfl,r,ih⟩
  | none=>
   have hv:vs[j]?=none:=by
    rw[List.getElem?_eq_none_iff] at hn ⊢
    rw[h.length];exact hn
   simp only[List.filterMap_cons,hn,hv]
   exact ih
theorem ax.pk {xs:List D} {vs:List V} (h:ax K F xs vs) (lo hi st:Option Int):ax K F (pk xs lo hi st) (kf vs lo hi st):=by
 unfold L3.pk kf
 rw[h.length]
 exact h.places _
abbrev TO3:=G→(Option Int→G→Prop)→Prop
def Jl (K:PySem.W.Frag) (t:TO) (t3:TO3):Prop:=∀ (B:Bs) (F:Hp) (σ:L2.St) (H:Hp) (Γ:G) (Q:Option Int→G→Prop) (QQ:Option Int→Hp→Prop),En K B F σ H Γ→t3 Γ Q→(∀ o H',(∃ F' Γ',aP F F'∧En K B F' σ H' Γ'∧Q o Γ')→QQ o H')→t σ H QQ
structure P3O (K:PySem.W.Frag) (X:Cx) (e:Option Expr) (t:TO) (t3:TO3):Prop where
 pe:PO X e t
 rf:Jl K t t3
def AR (Γ:G) (Q:Option Int→G→Prop):Prop:=Q none Γ
def z5 (a3:TB3) (Γ:G) (Q:Option Int→G→Prop):Prop:=a3 Γ fun x Γ1=>∃ i,x.at Γ1=some (.int i)∧Q (some i) Γ1
theorem gS:P3O K X none xW AR:=⟨CK,fun B F σ H Γ Q QQ e q k=>k _ _ ⟨F,Γ,aP.refl F,e,q⟩⟩
theorem dg (h:P3B K X a ta a3):P3O K X (some a) (DV ta) (z5 a3):=⟨CJ h.pe,by
 intro B F σ H Γ Q QQ e q k
 refine h.rf B F σ H Γ _ _ e q (fun v H1 ⟨F1,Γ1,x,s1,e1,r1,i,h1,q1⟩=>?_)
 have:v=.int i:=e1.bo r1 h1
 exact⟨i,this,k _ _ ⟨F1,Γ1,s1,e1,q1⟩⟩⟩
def sl3 (a3:TB3) (l3 h3:TO3) (Γ:G) (Q:RV→G→Prop):Prop:=a3 Γ fun x Γ1=>l3 Γ1 fun lo Γ2=>h3 Γ2 fun hi Γ3=>∃ xs,x.at Γ3=some (.lst xs)∧Q (.fr (.lst (cut xs lo hi))) Γ3
theorem mU {lo hi:Option Expr} {tl th:TO} {l3 h3:TO3} {p2:Pos} (hK:X.K=K) (ha:P3B K X a ta a3) (hl:P3O K X lo tl l3) (hh:P3O K X hi th h3):P3 K X (.Subscript a (.Slice lo hi none p2) pos) (tSl (GX K) ta tl th) (sl3 a3 l3 h3):=
 ⟨Ay (by subst hK;exact Cm) ha.pe hl.pe hh.pe,by
 intro B F σ H Γ Q QQ e q k
 refine ha.rf B F σ H Γ _ _ e q (fun v H1 ⟨F1,Γ1,x,s1,e1,r1,q1⟩=>?_)
 refine hl.rf B F1 σ H1 Γ1 _ _ e1 q1 (fun lo H2 ⟨F2,Γ2,s2,e2,q2⟩=>?_)
 refine hh.rf B F2 σ H2 Γ2 _ _ e2 q2 (fun hi H3 ⟨F3,Γ3,s3,e3,xs,h3,q3⟩=>?_)
 obtain⟨p,vs,rfl,h4,h5⟩:=e3.bo (r1.mono (s2.trans s3)) h3
 exact⟨p,vs,rfl,SqL.of h4,fun l hl=>k _ _ (Po.mono ((s1.trans s2).trans s3) (jw e3 hl (h5.cut lo hi) q3))⟩⟩
def EK (a3:TB3) (l3 h3:TO3) (Γ:G) (Q:RV→G→Prop):Prop:=a3 Γ fun x Γ1=>l3 Γ1 fun lo Γ2=>h3 Γ2 fun hi Γ3=>∃ xs,x.at Γ3=some (.tup xs)∧¬ (HT.sIx xs.length 0 lo=0∧HT.sIx xs.length xs.length hi=xs.length)∧Q (.fz (.tup (cut xs lo hi))) Γ3
def Cn (a3:TB3) (l3 h3 s3:TO3) (Γ:G) (Q:RV→G→Prop):Prop:=a3 Γ fun x Γ1=>l3 Γ1 fun lo Γ2=>h3 Γ2 fun hi Γ3=>s3 Γ3 fun st Γ4=>st≠some 0∧∃ xs,x.at Γ4=some (.lst xs)∧Q (.fr (.lst (pk xs lo hi st))) Γ4
theorem lu {lo hi:Option Expr} {st:Expr} {tl th ts:TO} {l3 h3 s3:TO3} {p2:Pos} (hK:X.K=K) (ha:P3B K X a ta a3) (hl:P3O K X lo tl l3) (hh:P3O K X hi th h3) (hs:P3O K X (some st) ts s3):P3 K X (.Subscript a (.Slice lo hi (some st) p2) pos) (GF K ta tl th ts) (Cn a3 l3 h3 s3):=
 ⟨by subst hK;exact y_ ha.pe hl.pe hh.pe hs.pe,by
 intro B F σ H Γ Q QQ e q k
 refine ha.rf B F σ H Γ _ _ e q (fun v H1 ⟨F1,Γ1,x,s1,e1,r1,q1⟩=>?_)
 refine hl.rf B F1 σ H1 Γ1 _ _ e1 q1 (fun lo H2 ⟨F2,Γ2,s2,e2,q2⟩=>?_)
 refine hh.rf B F2 σ H2 Γ2 _ _ e2 q2 (fun hi H3 ⟨F3,Γ3,s3,e3,q3⟩=>?_)
 refine hs.rf B F3 σ H3 Γ3 _ _ e3 q3 (fun st H4 ⟨F4,Γ4,s4,e4,hst,xs,h4,q4⟩=>?_)
 obtain⟨p,vs,rfl,h5,h6⟩:=e4.bo (r1.mono ((s2.trans s3).trans s4)) h4
 exact⟨hst,p,vs,rfl,SqL.of h5,fun l hl=>k _ _ (Po.mono (((s1.trans s2).trans s3).trans s4) (jw e4 hl (h6.pk lo hi st) q4))⟩⟩
def mh:D→Option (List D)
 | .lst xs=>some xs
 | .tup xs=>some xs
 | .ktup xs=>some xs
 | .scr ns=>some (ns.map .int)
 | _=>none
theorem sG {d:D} {v:V} {xs:List D} (s:aP F H) (h:hZ K F H d v) (hn:mh d=some xs):∃ p ys,v=.ref p∧(SqL K H p ys∨SqT K H p ys)∧ax K F xs ys:=by
 unfold mh at hn
 split at hn
 ·cases hn
  obtain⟨p,vs,rfl,h1,h2⟩:=h
  exact⟨p,vs,rfl,.inl (SqL.of h1),h2⟩
 ·cases hn
  obtain⟨p,vs,rfl,h1,h2⟩:=h
  exact⟨p,vs,rfl,.inr (.inl (.inl (s _ _ h1))),h2⟩
 ·cases hn
  obtain⟨p,vs,rfl,h1,h2⟩:=h
  exact⟨p,vs,rfl,.inr (SqT.same s h1),h2⟩
 ·cases hn
  obtain⟨p,rfl,h1⟩:=h
  exact⟨p,_,rfl,.inl (s.seq h1),ax.ints _⟩
 ·cases hn
def vO (ds:List D) (Γ:G) (Q:RV→G→Prop):Prop:=match ds with
 | [d]=>∃ xs,mh d=some xs∧Q (.fr (.lst xs)) Γ
 | _=>False
theorem fV (hK:X.K=K):B3 K X (.type "list") (fun xs H Q=>∃ p ys,xs=[.ref p]∧(SqL K H p ys∨SqT K H p ys)∧∀ l,H l=none→Q (.ref l) (upd H l (.lst ys))) vO:=⟨by subst hK;exact uL,by
 intro B F σ H Γ vs ds Q QQ e r q k
 unfold vO at q
 split at q
 ·obtain⟨v,rfl,h⟩:=r.one
  obtain⟨xs,hn,q⟩:=q
  obtain⟨p,ys,rfl,hs,hl⟩:=sG e.sub h hn
  exact⟨p,ys,rfl,hs,fun l hf=>k _ _ (jw e hf hl q)⟩
 ·exact q.elim⟩
def qk (ds:List D) (Γ:G) (Q:RV→G→Prop):Prop:=match ds with
 | [.lst xs]=>Q (.fz (.tup xs)) Γ
 | _=>False
theorem DB (hK:X.K=K):B3 K X (.type "tuple") (fun xs H Q=>∃ p ys,xs=[.ref p]∧((SqL K H p ys∧∀ l,H l=none→Q (.ref l) (upd H l (.tup ys)))∨(SqT K H p ys∧Q (.ref p) H))) qk:=⟨by subst hK;exact rS,by
 intro B F σ H Γ vs ds Q QQ e r q k
 unfold qk at q
 split at q
 ·obtain⟨v,rfl,p,ys,rfl,h1,h2⟩:=r.one
  exact⟨p,ys,rfl,.inl ⟨SqL.of h1,fun l hf=>k _ _ (ya e hf h2 q)⟩⟩
 ·exact q.elim⟩
def knD:D→Bool
 | .non=>true | .bl _=>true | .int _=>true | .str _=>true | .lst _=>true | .tup _=>true | _=>false
theorem FF {d:D} {v:V} (s:aP F H) (h:hZ K F H d v) (hk:knD d=true):Kn H v:=by
 unfold knD at hk
 split at hk
 ·cases h;exact .non
 ·cases h;exact .bl _
 ·cases h;exact .int _
 ·cases h;exact .str _
 ·obtain⟨p,vs,rfl,h1,_⟩:=h;exact .lst h1
 ·obtain⟨p,vs,rfl,h1,_⟩:=h;exact .tup (s _ _ h1)
 ·cases hk
def dB:D→Bool
 | .bl _=>true | _=>false
def dI:D→Bool
 | .bl _=>true | .int _=>true | _=>false
def dL:D→Bool
 | .lst _=>true | _=>false
def dT:D→Bool
 | .tup _=>true | _=>false
def is3 (t:String) (f:D→Bool) (ds:List D) (Γ:G) (Q:RV→G→Prop):Prop:=match ds with
 | [d,.ty t']=>t'=t∧knD d=true∧Q (.fz (.bl (f d))) Γ
 | _=>False
theorem DC {t:String} {f:D→Bool} {g:Hp→V→Bool} (h:ek X (.builtin "isinstance") (fun xs H Q=>∃ x,xs=[x,.ty t]∧Kn H x∧Q (.bl (g H x)) H))
  (hg:∀ {F H:Hp} {d:D} {v:V},aP F H→hZ K F H d v→knD d=true→g H v=f d):B3 K X (.builtin "isinstance") (fun xs H Q=>∃ x,xs=[x,.ty t]∧Kn H x∧Q (.bl (g H x)) H) (is3 t f):=⟨h,by
 intro B F σ H Γ vs ds Q QQ e r q k
 unfold is3 at q
 split at q
 ·obtain⟨v,w,rfl,h1,h2⟩:=r.two
  obtain⟨rfl,hk,q⟩:=q
  cases h2
  exact⟨v,rfl,FF e.sub h1 hk,by rw[hg e.sub h1 hk];exact k _ _ (qw e q)⟩
 ·exact q.elim⟩
theorem HS (T:jT X.K):B3 K X (.builtin "isinstance") (fun xs H Q=>∃ x,xs=[x,.ty "bool"]∧Kn H x∧Q (.bl (isB x)) H) (is3 "bool" dB):=DC (g:=fun _ v=>isB v) (BQ T) fun s h hk=>by
 unfold knD at hk
 split at hk
 ·cases h;rfl
 ·cases h;rfl
 ·cases h;rfl
 ·cases h;rfl
 ·obtain⟨p,vs,rfl,h1,_⟩:=h;rfl
 ·obtain⟨p,vs,rfl,h1,_⟩:=h;rfl
 ·cases hk
theorem HR (T:jT X.K):B3 K X (.builtin "isinstance") (fun xs H Q=>∃ x,xs=[x,.ty "int"]∧Kn H x∧Q (.bl (isI x)) H) (is3 "int" dI):=DC (g:=fun _ v=>isI v) (BP T) fun s h hk=>by
 unfold knD at hk
 split at hk
 ·cases h;rfl
 ·cases h;rfl
 ·cases h;rfl
 ·cases h;rfl
 ·obtain⟨p,vs,rfl,h1,_⟩:=h;rfl
 ·obtain⟨p,vs,rfl,h1,_⟩:=h;rfl
 ·cases hk
theorem HQ (T:jT X.K):B3 K X (.builtin "isinstance") (fun xs H Q=>∃ x,xs=[x,.ty "list"]∧Kn H x∧Q (.bl (isL H x)) H) (is3 "list" dL):=DC (BO T) fun s h hk=>by
 unfold knD at hk
 split at hk
 ·cases h;rfl
 ·cases h;rfl
 ·cases h;rfl
 ·cases h;rfl
 ·obtain⟨p,vs,rfl,h1,_⟩:=h;exact yn h1
 ·obtain⟨p,vs,rfl,h1,_⟩:=h;exact ym (s _ _ h1)
 ·cases hk
def B7 (ds:List D) (Γ:G) (Q:RV→G→Prop):Prop:=match ds with
 | [.lst xs]=>∃ bs:List Bool,xs=bs.map .bl∧Q (.fz (.bl (bs.all id))) Γ
 | _=>False
theorem ax.yE:∀ {bs:List Bool} {vs:List V},ax K F (bs.map D.bl) vs→vs=bs.map V.bl
 | [],_,h=>h
 | n::ns,_,⟨v,ws,h1,h2,h3⟩=>by
  rw[h1,ax.yE h3]
  have:v=.bl n:=h2
  rw[this];rfl
theorem HV (hK:X.K=K) (hc:X.calm=true):B3 K X (.builtin "all") (fun xs H Q=>∃ (p:Addr) (bs:List Bool),xs=[.ref p]∧SqL K H p (bs.map V.bl)∧Q (.bl (bs.all id)) H) B7:=⟨by subst hK;exact zE hc,by
 intro B F σ H Γ vs ds Q QQ e r q k
 unfold B7 at q
 split at q
 ·obtain⟨bs,rfl,q⟩:=q
  obtain⟨v,rfl,p,ys,rfl,h1,h2⟩:=r.one
  exact⟨p,bs,rfl,SqL.of (by rw[h1,h2.yE]),k _ _ (qw e q)⟩
 ·exact q.elim⟩
def flD:D→Bool
 | .non=>true | .bl _=>true | .int _=>true | .str _=>true | _=>false
def toV:D→V
 | .bl b=>.bl b | .int i=>.int i | .str x=>.str x | _=>.non
theorem Es {d:D} {v:V} (h:hZ K F H d v) (hk:flD d=true):v=toV d∧lO v=true:=by
 unfold flD at hk
 split at hk
 ·cases h;exact⟨rfl,rfl⟩
 ·cases h;exact⟨rfl,rfl⟩
 ·cases h;exact⟨rfl,rfl⟩
 ·cases h;exact⟨rfl,rfl⟩
 ·cases hk
theorem Er (s:aP F H):∀ {xs:List D} {vs:List V},ax K F xs vs→xs.all flD=true→vs=xs.map toV∧vs.all lO=true
 | [],_,h,_=>by cases h;exact⟨rfl,rfl⟩
 | x::xs,_,⟨v,ws,h1,h2,h3⟩,hk=>by
  rw[List.all_cons,Bool.and_eq_true] at hk
  obtain⟨a,b⟩:=Er s h3 hk.2
  obtain⟨c,d⟩:=Es (Rep.b s h2) hk.1
  subst h1 a c
  refine⟨rfl,?_⟩
  rw[List.all_cons,d,b];rfl
def in3 (neg:Bool) (x y:D) (Γ:G) (Q:RV→G→Prop):Prop:=∃ xs,mh y=some xs∧flD x=true∧xs.all flD=true∧Q (.fz (.bl (if neg then !inV (toV x) (xs.map toV) else inV (toV x) (xs.map toV)))) Γ
theorem Hq (neg:Bool):lU K (rIn K neg) (in3 neg):=by
 intro B F σ H Γ x y dx dy Q QQ e rx ry q k
 obtain⟨xs,hn,f1,f2,q⟩:=q
 obtain⟨p,ys,rfl,hs,hl⟩:=sG e.sub ry hn
 obtain⟨a,b⟩:=Er e.sub hl f2
 obtain⟨c,d⟩:=Es rx f1
 subst a c
 exact⟨p,_,rfl,hs,d,b,k _ _ (qw e q)⟩
theorem sR (hK:X.K=K):C3 K X .In (rIn K false) (in3 false):=⟨by subst hK;exact zd,Hq false⟩
def J3 (f:Str) (x:D) (Γ:G) (Q:RV→G→Prop):Prop:=match x with
 | .ins C ns xs=>∃ d,(ns.zip xs).lookup f=some d∧Q (.fz d) Γ
 | _=>False
theorem ax.lookup:∀ {ns:List Str} {xs:List D} {gs:List (Str×V)} {f:Str} {d:D},gs.map (·.1)=ns→ax K F xs (gs.map (·.2))→(ns.zip xs).lookup f=some d→∃ v,gs.lookup f=some v∧Rep K F d v
 | [],_,[],f,d,_,_,h=>by simp at h
 | n::ns,xs,(m,u)::gs,f,d,h1,h2,h3=>by
  simp only[List.map_cons,List.cons.injEq] at h1
  obtain⟨rfl,h1⟩:=h1
  cases xs with
  | nil=>simp at h3
  | cons x xs=>
   obtain⟨v,ws,e,r,h2⟩:=h2
   simp only[List.map_cons,List.cons.injEq] at e
   obtain⟨rfl,rfl⟩:=e
   rw[List.zip_cons_cons,List.lookup_cons] at h3
   rw[List.lookup_cons]
   cases q:f == m with
   | true=>rw[q] at h3;cases h3;exact⟨_,rfl,r⟩
   | false=>rw[q] at h3;exact ax.lookup h1 h2 h3
end
end L3
namespace L3
open PySem L2 PySem.Spec
structure E3 where
 nx:G→Prop
 rt:RV→G→Prop
 bk:G→Prop:=fun _=>False
 ct:G→Prop:=fun _=>False
abbrev TS3:=E3→G→Prop
structure wC (K:PySem.W.Frag) (B:Bs) (F:Hp) (D:Ends) (D3:E3):Prop where
 nx:∀ F' σ' H' Γ',aP F F'→En K B F' σ' H' Γ'→D3.nx Γ'→D.nx σ' H'
 rt:∀ F' σ' H' Γ' v r,aP F F'→En K B F' σ' H' Γ'→lM K B F' σ' H' Γ' v r→D3.rt r Γ'→D.rt v H'
 bk:∀ F' σ' H' Γ',aP F F'→En K B F' σ' H' Γ'→D3.bk Γ'→D.bk σ' H'
 ct:∀ F' σ' H' Γ',aP F F'→En K B F' σ' H' Γ'→D3.ct Γ'→D.ct σ' H'
theorem wC.mono {K:PySem.W.Frag} {B:Bs} {F F1:Hp} {D:Ends} {D3:E3} (h:wC K B F D D3) (s:aP F F1):wC K B F1 D D3:=
 ⟨fun F' σ' H' Γ' s'=>h.nx F' σ' H' Γ' (s.trans s'),fun F' σ' H' Γ' v r s'=>h.rt F' σ' H' Γ' v r (s.trans s'),fun F' σ' H' Γ' s'=>h.bk F' σ' H' Γ' (s.trans s'),fun F' σ' H' Γ' s'=>h.ct F' σ' H' Γ' (s.trans s')⟩
def DR (K:PySem.W.Frag) (t:TS) (t3:TS3):Prop:=∀ (B:Bs) (F:Hp) (σ:L2.St) (H:Hp) (Γ:G) (D:Ends) (D3:E3),En K B F σ H Γ→wC K B F D D3→t3 D3 Γ→t D σ H
structure P3S (K:PySem.W.Frag) (X:Cx) (st:Stmt) (t:TS) (t3:TS3):Prop where
 pe:PS X st t
 rf:DR K t t3
structure uX (K:PySem.W.Frag) (X:Cx) (st:List Stmt) (t:TS) (t3:TS3):Prop where
 pe:PSs X st t
 rf:DR K t t3
section
variable {K:PySem.W.Frag} {X:Cx} {B:Bs} {F H:Hp} {σ:L2.St} {Γ:G} {pos:Pos}
def cK (Γ:G) (i:Nat):Prop:=match Γ[i]? with
 | some (some (.ln _))=>False
 | some _=>True
 | none=>False
theorem kz {i:Nat} (h:cK Γ i):i < Γ.length:=by
 unfold cK at h
 split at h
 ·exact h.elim
 ·rename_i q
  exact(List.getElem?_eq_some_iff.mp q).1
 ·exact h.elim
theorem aE {α:Type} {l:List α} {i:Nat} {a:α} (h:i < l.length):(l.set i a)[i]?=some a:=by
 rw[List.getElem?_set,if_pos rfl,if_pos h]
theorem En.set (e:En K B F σ H Γ) {i:Nat} (hi:cK Γ i) {v:V} {r:RV} (hr:lM K B F σ H Γ v r) (hn:∀ xs ys,r≠.two xs ys:=by nofun):En K B F (σ.set i (some v)) H (Γ.set i (some r.sl)):=by
 have il:=kz hi
 have is:i < σ.length:=by rw[e.len];exact il
 have nl:∀ d,Γ[i]?≠some (some (Sl.ln d)):=fun d q=>by unfold cK at hi;rw[q] at hi;exact hi
 have ne:∀ {j:Nat},j≠i→(Γ.set i (some r.sl))[j]?=Γ[j]?∧(σ.set i (some v))[j]?=σ[j]?:=fun h=>⟨bJ (Ne.symm h),bJ (Ne.symm h)⟩
 have hld:∀ {j x},Hld (Γ.set i (some r.sl)) j x→(j=i∧r=.fr x)∨(j≠i∧Hld Γ j x):=fun {j x} q=>by
  by_cases z:j=i
  ·subst z
   left
   refine⟨rfl,?_⟩
   rcases q with q | q <;> rw[aE il] at q <;> cases r <;> cases q <;> rfl
  ·right
   exact⟨z,by unfold Hld at q ⊢;rw[(ne z).1] at q;exact q⟩
 refine⟨e.sub,by rw[List.length_set,List.length_set];exact e.len,?_,?_,?_,?_,?_,?_,e.keep,e.new,e.rest,e.dom⟩
 ·intro j d q
  by_cases z:j=i
  ·subst z
   rw[aE il] at q
   cases r with
   | fz x=>cases q;exact⟨v,aE is,hr⟩
   | fr x=>cases q
   | two xs ys=>exact absurd rfl (hn xs ys)
  ·rw[(ne z).1] at q
   rw[(ne z).2]
   exact e.fz j d q
 ·intro j d q
  rcases hld q with ⟨rfl,rfl⟩ | ⟨z,q⟩
  ·obtain⟨p,rfl,h1,h2,h3,h4⟩:=hr
   exact⟨p,aE is,h1,h2⟩
  ·rw[(ne z).2]
   exact e.hl j d q
 ·intro j d p q a
  rcases hld (.inl q) with ⟨rfl,rfl⟩ | ⟨z,_⟩
  ·obtain⟨p',rfl,h1,h2,h3,h4⟩:=hr
   rw[aE is] at a;cases a
   exact h3
  ·rw[(ne z).1] at q
   rw[(ne z).2] at a
   exact e.ow j d p q a
 ·intro j d p q a
  rcases hld (.inr q) with ⟨rfl,rfl⟩ | ⟨z,_⟩
  ·rw[aE il] at q;cases q
  ·rw[(ne z).1] at q
   rw[(ne z).2] at a
   exact e.ln j d p q a
 ·intro j k d d' p q1 q2 a1 a2
  rcases hld q1 with ⟨rfl,rfl⟩ | ⟨z1,w1⟩
  ·rcases hld q2 with ⟨rfl,h⟩ | ⟨z2,w2⟩
   ·rfl
   ·obtain⟨p',rfl,h1,h2,h3,h4⟩:=hr
    rw[aE is] at a1;cases a1
    rw[(ne z2).2] at a2
    exact absurd a2 (h4 k _ w2)
  ·rcases hld q2 with ⟨rfl,h⟩ | ⟨z2,w2⟩
   ·subst h
    obtain⟨p',rfl,h1,h2,h3,h4⟩:=hr
    rw[aE is] at a2;cases a2
    rw[(ne z1).2] at a1
    exact absurd a1 (h4 j _ w1)
   ·rw[(ne z1).2] at a1
    rw[(ne z2).2] at a2
    exact e.dis j k d d' p w1 w2 a1 a2
 ·intro j p q
  obtain⟨a,d,b⟩:=e.par j p q
  have z:j≠i:=fun z=>by subst z;exact nl d b
  rw[(ne z).1,(ne z).2]
  exact⟨a,d,b⟩
theorem En.forget (e:En K B F σ H Γ) {i:Nat} (hi:cK Γ i):En K B F σ H (Γ.set i none):=by
 have nl:∀ d,Γ[i]?≠some (some (Sl.ln d)):=fun d q=>by unfold cK at hi;rw[q] at hi;exact hi
 have il:=kz hi
 have ne:∀ {j:Nat} {s:Sl},(Γ.set i none)[j]?=some (some s)→j≠i∧Γ[j]?=some (some s):=fun {j s} q=>by
  by_cases z:j=i
  ·subst z;rw[aE il] at q;cases q
  ·exact⟨z,by rw[bJ (Ne.symm z)] at q;exact q⟩
 have hld:∀ {j x},Hld (Γ.set i none) j x→Hld Γ j x:=fun q=>q.imp (fun q=>(ne q).2) (fun q=>(ne q).2)
 exact⟨e.sub,by rw[List.length_set];exact e.len,fun j d q=>e.fz j d (ne q).2,fun j d q=>e.hl j d (hld q),fun j d p q=>e.ow j d p (ne q).2,fun j d p q=>e.ln j d p (ne q).2,fun j k d d' p q1 q2=>e.dis j k d d' p (hld q1) (hld q2),
  fun j p q=>by
   obtain⟨a,d,b⟩:=e.par j p q
   have z:i≠j:=fun z=>by subst z;exact nl d b
   exact⟨a,d,by rw[bJ z];exact b⟩,e.keep,e.new,e.rest,e.dom⟩
def yZ (i:Nat) (Γ:G) (Q:RV→G→Prop):Prop:=match Γ[i]? with
 | some (some (.fz d))=>Q (.fz d) Γ
 | some (some (.ow d))=>Q (.fr d) (Γ.set i none)
 | _=>False
theorem EV (i:Nat):Ref K (fH i) (yZ i):=by
 intro B F σ H Γ Q QQ e h k
 unfold yZ at h
 split at h
 ·rename_i d q
  obtain⟨v,h1,h2⟩:=e.fz i d q
  exact⟨v,h1,k _ _ (iT e h2 h)⟩
 ·rename_i d q
  obtain⟨p,h1,h2,h3⟩:=e.hl i d (.inl q)
  have hf:cK Γ i:=by unfold cK;rw[q];trivial
  have e':=e.forget hf
  refine⟨_,h1,k _ _ ⟨F,_,.fr d,aP.refl F,e',⟨p,rfl,h2,h3,e.ow i d p q h1,fun j x hj=>?_⟩,h⟩⟩
  intro a
  have hj':j≠i∧Hld Γ j x:=by
   by_cases z:j=i
   ·subst z
    rcases hj with hj | hj <;> rw[aE (kz hf)] at hj <;> cases hj
   ·exact⟨z,by unfold Hld at hj ⊢;rw[bJ (Ne.symm z)] at hj;exact hj⟩
  exact hj'.1 (e.dis j i x d p hj'.2 (.inl q) a h1)
 ·exact h.elim
theorem vx (i:Nat) {x:Str} {pos:Pos} (hN:X.N[i]?=some x:=by rfl) (hv:Vis X.env.scope x:=by first | exact Or.inl rfl | exact Or.inr (Or.inl rfl) | exact Or.inr (Or.inr rfl)) (hd:(x == ("__debug__":Str))=false:=by decide)
  (hcd:(x == ("__classdict__":Str))=false:=by decide):P3 K X (.Name x pos) (fH i) (yZ i):=⟨qy hN hv hd hcd,EV i⟩
variable {st:Stmt} {rest:List Stmt} {t u:TS} {t3 u3:TS3} {e:Expr} {te:TE} {e3:TE3}
def AU (D:E3) (Γ:G):Prop:=D.nx Γ
def z_ (t u:TS3) (D:E3) (Γ:G):Prop:=t { D with nx:=u D } Γ
def ET (e3:TE3) (D:E3) (Γ:G):Prop:=e3 Γ D.rt
def BG (e3:TE3) (D:E3) (Γ:G):Prop:=e3 Γ fun _ Γ1=>D.nx Γ1
theorem bF:uX K X [] DW AU:=⟨CI,fun B F σ H Γ D D3 e k q=>k.nx F σ H Γ (aP.refl F) e q⟩
theorem ao (h1:P3S K X st t t3) (h2:uX K X rest u u3):uX K X (st::rest) (Ci t u) (z_ t3 u3):=⟨qu h1.pe h2.pe,fun B F σ H Γ D D3 e k q=>
 h1.rf B F σ H Γ _ { D3 with nx:=u3 D3 } e ⟨fun F' σ' H' Γ' s e' q'=>h2.rf B F' σ' H' Γ' _ D3 e' (k.mono s) q',k.rt,k.bk,k.ct⟩ q⟩
theorem aq (h1:P3S K X st t t3):uX K X [st] t t3:=⟨CH h1.pe,h1.rf⟩
theorem au (h:P3 K X e te e3):P3S K X (.Return (some e) pos) (GG te) (ET e3):=⟨E5 h.pe,fun B F σ H Γ D D3 e k q=>
 h.rf B F σ H Γ _ _ e q fun v H' ⟨F',Γ',r,s,e',rv,q'⟩=>k.rt F' σ H' Γ' v r s e' rv q'⟩
theorem lp (h:P3 K X e te e3) (hs:swapsWith e none pos.line X.env=pure false:=by rfl):P3S K X (.Expr e pos) (zZ te) (BG e3):=⟨x_ h.pe hs,fun B F σ H Γ D D3 e k q=>
 h.rf B F σ H Γ _ _ e q fun v H' ⟨F',Γ',r,s,e',rv,q'⟩=>k.nx F' σ H' Γ' s e' q'⟩
def FR (A3:TT3) (t u:TS3) (D:E3) (Γ:G):Prop:=A3 Γ fun c Γ1=>match c with
 | true=>t D Γ1
 | false=>u D Γ1
theorem cJ {c:Expr} {a b:List Stmt} {tc:TT} {A3:TT3} (hc:P3T K X c tc A3) (ha:uX K X a t t3) (hb:uX K X b u u3):P3S K X (.If c a b pos) (GJ tc t u) (FR A3 t3 u3):=⟨G4 hc.pe ha.pe hb.pe,fun B F σ H Γ D D3 e k q=>
 hc.rf B F σ H Γ _ _ e q fun c H' ⟨F',Γ',s,e',q'⟩=>by
  cases c with
  | true=>exact zr (ha.rf B F' σ H' Γ' D D3 e' (k.mono s) q')
  | false=>exact zt (hb.rf B F' σ H' Γ' D D3 e' (k.mono s) q')⟩
theorem iP:P3S K X st zX (fun _ _=>False):=⟨Aw,fun B F σ H Γ D D3 e k q=>q⟩
def y0 (i:Nat) (e3:TE3) (D:E3) (Γ:G):Prop:=e3 Γ fun r Γ1=>cK Γ1 i∧D.nx (Γ1.set i (some r.sl))
theorem tZ {i:Nat} (h:Ref K te e3):DR K (pN te (nE i)) (y0 i e3):=fun B F σ H Γ D D3 e k q=>
 h B F σ H Γ _ _ e q fun v H' ⟨F',Γ',r,s,e',rv,hf,q'⟩=>by
  obtain⟨F2,r2,s2,e2,rv2,h2,hn⟩:=e'.norm rv
  exact k.nx F2 _ H' _ (s.trans s2) (by have:=e2.set hf rv2 hn;rw[h2] at this;exact this) q'
theorem bI {i:Nat} {x:Str} {pos':Pos} (hN:X.N.Nodup) (hi:X.N[i]?=some x) (hx:Loc X.env.scope x) (he:P3 K X e te e3) (hs:swapsWith e (some (.Name x pos')) pos.line X.env=pure false:=by rfl) (hf:X.fn x=true∨X.env.scope.names.lookup x=some .local:=by first | exact .inl rfl | exact .inr rfl | assumption) :
  P3S K X (.Assign [.Name x pos'] e pos) (pN te (nE i)) (y0 i e3):=⟨E4 hN hi hx he.pe hs hf,tZ he.rf⟩
def CV (i j:Nat) (t3:TA3) (D:E3) (Γ:G):Prop:=t3 Γ fun ds Γ1=>∃ d d',ds=[d,d']∧cK Γ1 i∧cK (Γ1.set i (some (.fz d))) j∧D.nx ((Γ1.set i (some (.fz d))).set j (some (.fz d')))
theorem EO {i j:Nat} {x y:Str} {a b:Expr} {ta:TA} {a3:TA3} {px py pt:Pos} {kt k2 pt2} (hc:X.calm=true) (hN:X.N.Nodup) (hi:X.N[i]?=some x) (hj:X.N[j]?=some y) (hij:i≠j)
  (hx:X.env.scope.names.lookup x=some .local) (hy:X.env.scope.names.lookup y=some .local) (ha:P3A K X [a,b] ta a3)
  (hw:swappedStores [.Tuple [.Name x px,.Name y py] kt pt] (.Tuple [a,b] k2 pt2) X.env=pure (some [x,y]))
  (hs:swapsWithSole [.Tuple [.Name x px,.Name y py] kt pt] (.Tuple [a,b] k2 pt2) pos.line X.env=pure false:=by rfl) :
  P3S K X (.Assign [.Tuple [.Name x px,.Name y py] kt pt] (.Tuple [a,b] k2 pt2) pos) (EF i j ta) (CV i j a3):=⟨Av hc hN hi hj hij hx hy ha.pe hw hs,fun B F σ H Γ D D3 e k q=>
 ha.rf B F σ H Γ _ _ e q fun vs H' ⟨F',Γ',ds,s,e',rv,d,d',h1,h2,h3,q'⟩=>by
  subst h1
  obtain⟨v,ws,rfl,r1,w,ws',rfl,r2,r3⟩:=rv
  cases r3
  refine⟨v,w,rfl,k.nx F' _ H' _ s ?_ q'⟩
  exact(e'.set (r:=.fz d) h2 r1).set (r:=.fz d') h3 r2⟩
def gives (Γ:G):List Nat→List D→Option G
 | [],[]=>some Γ
 | i::is,d::ds=>gives (Γ.set i (some (.fz d))) is ds
 | _,_=>none
def frees (Γ:G):List Nat→List D→Prop
 | [],_=>True
 | i::is,d::ds=>cK Γ i∧frees (Γ.set i (some (.fz d))) is ds
 | _,_=>True
def ky:List Nat→TGs
 | []=>HF
 | i::is=>Ep (nE i) (ky is)
theorem mj {is:List Nat}:∀ {Γ:G} {σ:L2.St} {vs:List V} {ds:List D} {Γ':G} {QQ:L2.St→Hp→Prop},En K B F σ H Γ→ax K F ds vs→gives Γ is ds=some Γ'→frees Γ is ds→(∀ σ',En K B F σ' H Γ'→QQ σ' H)→ky is vs σ H QQ:=by
 induction is with
 | nil=>
  intro Γ σ vs ds Γ' QQ e r g f k
  cases ds with
  | nil=>cases g;cases r;exact⟨rfl,k σ e⟩
  | cons d ds=>cases g
 | cons i is ih=>
  intro Γ σ vs ds Γ' QQ e r g f k
  cases ds with
  | nil=>cases g
  | cons d ds=>
   obtain⟨v,ws,rfl,r1,r2⟩:=r
   exact⟨v,ws,rfl,ih (e.set (r:=.fz d) f.1 r1) r2 g f.2 k⟩
def z7 (is:List Nat) (e3:TE3) (D:E3) (Γ:G):Prop:=e3 Γ fun r Γ1=>∃ ds Γ',r.d=.tup ds∧gives Γ1 is ds=some Γ'∧frees Γ1 is ds∧D.nx Γ'
theorem sJ {is:List Nat}:∀ {Γ Γ':G} {ds:List D},gives Γ is ds=some Γ'→ds.length=is.length:=by
 induction is with
 | nil=>intro Γ Γ' ds h;cases ds with | nil=>rfl | cons=>cases h
 | cons i is ih=>intro Γ Γ' ds h;cases ds with | nil=>cases h | cons d ds=>simp [ih h]
theorem x5 {es:List Expr} {kt:Nat} {pt:Pos} {is:List Nat} (hK:X.K=K) (he:P3 K X e te e3) (hg:PGs X es (ky is)) (hc:X.calm=true) (hn:(assignEach es X.env).length=is.length:=by rfl) (hst:(assignEach es X.env).findIdx? (·.1)=none:=by rfl)
  (hs:swapsWithSole [.Tuple es kt pt] e pos.line X.env=pure false:=by rfl) (hw:swappedStores [.Tuple es kt pt] e X.env=pure none:=by rfl) (h1:(assignEach [.Tuple es kt pt] X.env).map (·.2)=[assign (.Tuple es kt pt) X.env]:=by rfl) :
  P3S K X (.Assign [.Tuple es kt pt] e pos) (pN te (Dv K is.length (ky is))) (z7 is e3):=⟨by subst hK;exact wU he.pe (wW hc hg hn hst) hs hw h1,fun B F σ H Γ D D3 e k q=>
 he.rf B F σ H Γ _ _ e q fun v H' ⟨F',Γ',r,s,e',rv,ds,Γ2,h1,h2,h3,q'⟩=>by
  obtain⟨F2,s2,e2,r2⟩:=e'.frozen rv
  rw[h1] at r2
  obtain⟨p,vs,rfl,h4,h5⟩:=r2
  refine⟨p,vs,rfl,.inl (.inl (e2.sub _ _ h4)),by rw[h5.length,sJ h2],mj e2 h5 h2 h3 fun σ' e3=>k.nx F2 σ' _ Γ2 (s.trans s2) e3 q'⟩⟩
def putD (Γ:G) (i:Nat) (d:D):G:=match Γ[i]? with
 | some (some (.ow _))=>Γ.set i (some (.ow d))
 | some (some (.ln _))=>Γ.set i (some (.ln d))
 | _=>Γ
def cO (Γ:G) (i:Nat):Option (List D):=match Γ[i]? with
 | some (some (.ow (.lst xs)))=>some xs
 | some (some (.ln (.lst xs)))=>some xs
 | _=>none
theorem sH {i:Nat} {xs:List D} (h:cO Γ i=some xs):Hld Γ i (.lst xs):=by
 unfold cO at h
 split at h
 ·cases h;rename_i q;exact .inl q
 ·cases h;rename_i q;exact .inr q
 ·cases h
theorem En.mut (e:En K B F σ H Γ) {i:Nat} {xs xs':List D} (h:cO Γ i=some xs) {p:Addr} (hp:σ[i]?=some (some (V.ref p))) {vs':List V} (r:ax K F xs' vs'):En K B F σ (upd H p (.lst vs')) (putD Γ i (.lst xs')):=by
 have hh:=sH h
 obtain⟨p0,a0,b0,c0⟩:=e.hl i _ hh
 rw[hp] at a0;cases a0
 obtain⟨o,ho⟩:=c0.some
 have hput:(Γ[i]?=some (some (Sl.ow (.lst xs)))∧putD Γ i (.lst xs')=Γ.set i (some (.ow (.lst xs'))))∨(Γ[i]?=some (some (Sl.ln (.lst xs)))∧putD Γ i (.lst xs')=Γ.set i (some (.ln (.lst xs')))):=by
  rcases hh with q | q
  ·exact .inl ⟨q,by unfold putD;rw[q]⟩
  ·exact .inr ⟨q,by unfold putD;rw[q]⟩
 have il:i < Γ.length:=by rcases hput with ⟨q,_⟩ | ⟨q,_⟩ <;> exact(List.getElem?_eq_some_iff.mp q).1
 have other:∀ {j:Nat},j≠i→(putD Γ i (.lst xs'))[j]?=Γ[j]?:=fun z=>by
  rcases hput with ⟨_,q⟩ | ⟨_,q⟩ <;> rw[q,bJ (Ne.symm z)]
 have same:∀ {s:Sl},(putD Γ i (.lst xs'))[i]?=some (some s)→(s=.ow (.lst xs')∧Γ[i]?=some (some (Sl.ow (.lst xs))))∨(s=.ln (.lst xs')∧Γ[i]?=some (some (Sl.ln (.lst xs)))):=fun {s} q=>by
  rcases hput with ⟨a,b⟩ | ⟨a,b⟩
  ·rw[b,aE il] at q;cases q;exact .inl ⟨rfl,a⟩
  ·rw[b,aE il] at q;cases q;exact .inr ⟨rfl,a⟩
 have hld:∀ {j x},Hld (putD Γ i (.lst xs')) j x→(j=i∧x=.lst xs')∨(j≠i∧Hld Γ j x):=fun {j x} q=>by
  by_cases z:j=i
  ·subst z
   left
   rcases q with q | q <;> rcases same q with ⟨h,_⟩ | ⟨h,_⟩ <;> cases h <;> exact⟨rfl,rfl⟩
  ·right;exact⟨z,by unfold Hld at q ⊢;rw[other z] at q;exact q⟩
 have hld':∀ {j x},Hld (putD Γ i (.lst xs')) j x→∃ y,Hld Γ j y:=fun q=>by
  rcases hld q with ⟨rfl,_⟩ | ⟨_,q⟩
  ·exact⟨_,hh⟩
  ·exact⟨_,q⟩
 refine⟨?_,?_,?_,?_,?_,?_,?_,?_,e.keep,e.new,?_,?_⟩
 ·intro b u q
  have z:b≠p:=fun z=>by subst z;rw[b0] at q;cases q
  rw[aj z];exact e.sub b u q
 ·rcases hput with ⟨_,q⟩ | ⟨_,q⟩ <;> rw[q,List.length_set] <;> exact e.len
 ·intro j d q
  by_cases z:j=i
  ·subst z;rcases same q with ⟨h,_⟩ | ⟨h,_⟩ <;> cases h
  ·rw[other z] at q;exact e.fz j d q
 ·intro j d q
  rcases hld q with ⟨rfl,rfl⟩ | ⟨z,q⟩
  ·exact⟨p,hp,b0,vs',aC,r⟩
  ·obtain⟨p',a,b,c⟩:=e.hl j d q
   have ne:p'≠p:=fun y=>z (e.dis j i _ _ p q hh (y ▸ a) hp)
   exact⟨p',a,b,c.mono (aP.refl F) (aj ne)⟩
 ·intro j d p' q a
  by_cases z:j=i
  ·subst z
   rcases same q with ⟨h,g⟩ | ⟨h,g⟩
   ·exact e.ow j _ p' g a
   ·cases h
  ·rw[other z] at q;exact e.ow j d p' q a
 ·intro j d p' q a
  by_cases z:j=i
  ·subst z
   rcases same q with ⟨h,g⟩ | ⟨h,g⟩
   ·cases h
   ·exact e.ln j _ p' g a
  ·rw[other z] at q;exact e.ln j d p' q a
 ·intro j k d d' p' q1 q2
  obtain⟨y1,h1⟩:=hld' q1
  obtain⟨y2,h2⟩:=hld' q2
  exact e.dis j k y1 y2 p' h1 h2
 ·intro j p' q
  obtain⟨a,d,b⟩:=e.par j p' q
  refine⟨a,?_⟩
  by_cases z:j=i
  ·subst z
   rcases hput with ⟨c,_⟩ | ⟨_,c⟩
   ·rw[b] at c;cases c
   ·exact⟨_,by rw[c,aE il]⟩
  ·exact⟨d,by rw[other z];exact b⟩
 ·intro b u q n
  have z:b≠p:=fun z=>by
   subst z
   rcases hh with g | g
   ·rw[e.ow i _ _ g hp] at q;cases q
   ·exact n i (e.ln i _ _ g hp)
  rw[aj z];exact e.rest b u q n
 ·intro b q
  by_cases z:b=p
  ·subst z;rw[aC] at q;cases q
  ·rw[aj z] at q;exact e.dom b q
end
end L3
namespace L3
open PySem L2 PySem.Spec
section
variable {K:PySem.W.Frag} {X:Cx} {B:Bs} {F H:Hp} {σ:L2.St} {Γ:G} {pos:Pos}
def newD:List (Option Nat)→G→Nat→Option D
 | some j'::ls,s::cs,j=>if j'=j then (match s with
   | some (.ln d)=>some d
   | _=>newD ls cs j) else newD ls cs j
 | none::ls,_::cs,j=>newD ls cs j
 | _,_,_=>none
theorem iW:∀ {ls:List (Option Nat)} {cs:G} {j:Nat} {d:D},newD ls cs j=some d→∃ k:Nat,ls[k]?=some (some j)∧cs[k]?=some (some (Sl.ln d))
 | some j'::ls,s::cs,j,d,h=>by
  unfold newD at h
  split at h
  ·rename_i e
   subst e
   split at h
   ·cases h;exact⟨0,rfl,rfl⟩
   ·obtain⟨k,a,b⟩:=iW h
    exact⟨k + 1,by simpa using a,by simpa using b⟩
  ·obtain⟨k,a,b⟩:=iW h
   exact⟨k + 1,by simpa using a,by simpa using b⟩
 | none::ls,_::cs,j,d,h=>by
  unfold newD at h
  obtain⟨k,a,b⟩:=iW h
  exact⟨k + 1,by simpa using a,by simpa using b⟩
 | [],_,_,_,h=>by unfold newD at h;cases h
 | some _::_,[],_,_,h=>by unfold newD at h;cases h
 | none::_,[],_,_,h=>by unfold newD at h;cases h
theorem qa:∀ {ls:List (Option Nat)} {cs:G} {j k:Nat} {d:D},ls[k]?=some (some j)→cs[k]?=some (some (Sl.ln d))→∃ d',newD ls cs j=some d'
 | [],_,_,_,_,h,_=>by simp at h
 | _::_,[],_,_,_,_,h=>by simp at h
 | some j'::ls,s::cs,j,0,d,h,h'=>by
  simp at h h'
  subst h h'
  exact⟨d,by unfold newD;rw[if_pos rfl]⟩
 | none::ls,s::cs,j,0,d,h,h'=>by simp at h
 | some j'::ls,s::cs,j,k + 1,d,h,h'=>by
  unfold newD
  split
  ·split
   ·exact⟨_,rfl⟩
   ·exact qa (k:=k) (by simpa using h) (by simpa using h')
  ·exact qa (k:=k) (by simpa using h) (by simpa using h')
 | none::ls,s::cs,j,k + 1,d,h,h'=>by
  unfold newD
  exact qa (k:=k) (by simpa using h) (by simpa using h')
def nP (n:Option D):Option Sl→Option Sl
 | some (.ow d)=>some (.ow (n.getD d))
 | some (.ln d)=>some (.ln (n.getD d))
 | s=>s
def cL (ls:List (Option Nat)) (Γ cs:G):G:=Γ.mapIdx fun j s=>nP (newD ls cs j) s
theorem fW {ls:List (Option Nat)} {cs:G} {j:Nat}:(cL ls Γ cs)[j]?=(Γ[j]?).map (nP (newD ls cs j)):=by
 unfold cL
 rw[List.getElem?_mapIdx]
theorem En.back {F1 H1:Hp} {own':List (Nat×Addr)} {σc:L2.St} {Γc:G} {ls:List (Option Nat)} (e:En K B F1 σ H1 Γ) (e2:En K ⟨F1,H1,own'⟩ F σc H Γc)
  (h1:∀ k p,(k,p)∈own'→∃ j d,ls[k]?=some (some j)∧Hld Γ j d∧σ[j]?=some (some (V.ref p))):En K B F σ H (cL ls Γ Γc):=by
 have gfz:∀ {j d},(cL ls Γ Γc)[j]?=some (some (Sl.fz d))→Γ[j]?=some (some (Sl.fz d)):=fun {j d} q=>by
  rw[fW] at q
  cases w:Γ[j]? with
  | none=>rw[w] at q;cases q
  | some s=>
   rw[w] at q
   cases s with
   | none=>cases q
   | some s=>cases s <;> cases q;rfl
 have gow:∀ {j d},(cL ls Γ Γc)[j]?=some (some (Sl.ow d))→∃ d0,Γ[j]?=some (some (Sl.ow d0))∧d=(newD ls Γc j).getD d0:=fun {j d} q=>by
  rw[fW] at q
  cases w:Γ[j]? with
  | none=>rw[w] at q;cases q
  | some s=>
   rw[w] at q
   cases s with
   | none=>cases q
   | some s=>cases s <;> cases q;exact⟨_,rfl,rfl⟩
 have gln:∀ {j d},(cL ls Γ Γc)[j]?=some (some (Sl.ln d))→∃ d0,Γ[j]?=some (some (Sl.ln d0))∧d=(newD ls Γc j).getD d0:=fun {j d} q=>by
  rw[fW] at q
  cases w:Γ[j]? with
  | none=>rw[w] at q;cases q
  | some s=>
   rw[w] at q
   cases s with
   | none=>cases q
   | some s=>cases s <;> cases q;exact⟨_,rfl,rfl⟩
 have gh:∀ {j d},Hld (cL ls Γ Γc) j d→∃ d0,Hld Γ j d0∧d=(newD ls Γc j).getD d0:=fun {j d} q=>by
  rcases q with q | q
  ·obtain⟨d0,a,b⟩:=gow q;exact⟨d0,.inl a,b⟩
  ·obtain⟨d0,a,b⟩:=gln q;exact⟨d0,.inr a,b⟩
 refine⟨e2.sub,by unfold cL;rw[List.length_mapIdx];exact e.len,?_,?_,?_,?_,?_,?_,e.keep.trans e2.keep,?_,?_,?_⟩
 ·intro j d q
  obtain⟨v,a,b⟩:=e.fz j d (gfz q)
  exact⟨v,a,b.mono e2.keep⟩
 ·intro j d q
  obtain⟨d0,w0,rfl⟩:=gh q
  obtain⟨p,a,b,c⟩:=e.hl j d0 w0
  obtain⟨o,ho⟩:=c.some
  have fp:F p=none:=by
   cases w:F p with
   | none=>rfl
   | some u=>
    rcases e2.new p u w with z | z
    ·rw[show F1 p=some u from z] at b;cases b
    ·rw[show H1 p=none from z] at ho;cases ho
  refine⟨p,a,fp,?_⟩
  cases w:newD ls Γc j with
  | some d'=>
   obtain⟨k,x,y⟩:=iW w
   obtain⟨p',a',b',c'⟩:=e2.hl k d' (.inr y)
   obtain⟨j2,d2,x2,_,a2⟩:=h1 k p' (e2.ln k d' p' y a')
   rw[x] at x2;cases x2
   rw[a] at a2;cases a2
   exact c'
  | none=>
   have hk:∀ k,(k,p)∉own':=fun k hk=>by
    obtain⟨j2,d2,x2,q2,a2⟩:=h1 k p hk
    obtain⟨_,d3,y⟩:=e2.par k p hk
    have:j2=j:=e.dis j2 j d2 d0 p q2 w0 a2 a
    subst this
    obtain⟨d4,z⟩:=qa x2 y
    rw[w] at z;cases z
   have hp:H p=H1 p:=by rw[ho];exact e2.rest p o ho hk
   exact c.mono e2.keep hp
 ·intro j d p q a
  obtain⟨d0,q,_⟩:=gow q
  exact e.ow j d0 p q a
 ·intro j d p q a
  obtain⟨d0,q,_⟩:=gln q
  exact e.ln j d0 p q a
 ·intro i j d d' p q1 q2
  obtain⟨d0,q1,_⟩:=gh q1
  obtain⟨d1,q2,_⟩:=gh q2
  exact e.dis i j d0 d1 p q1 q2
 ·intro j p q
  obtain⟨a,d,b⟩:=e.par j p q
  exact⟨a,_,by rw[fW,b];rfl⟩
 ·intro b o q
  rcases e2.new b o q with z | z
  ·exact e.new b o z
  ·exact .inr (e.dom b z)
 ·intro b o q n
  have q1:=e.rest b o q n
  refine e2.rest b o q1 fun k hk=>?_
  obtain⟨j,d,x,y,a⟩:=h1 k b hk
  rcases y with y | y
  ·rw[e.ow j d b y a] at q;cases q
  ·exact n j (e.ln j d b y a)
 ·intro b q
  exact e.dom b (e2.dom b q)
structure ItR (K:PySem.W.Frag) (F:Hp) (J:It) (xs:List D):Prop where
 go:∀ i H',aP F H'→i < xs.length→J.go i H'
 stop:∀ i H',aP F H'→i=xs.length→J.stop i H'
 yld:∀ i H' x H'' d,aP F H'→xs[i]?=some d→J.yld i H' x H''→(H''=H'∧Rep K F d x)∨∃ t vs ds,H' t=none∧H''=upd H' t (.tup vs)∧x=.ref t∧ax K F ds vs∧d=.tup ds
abbrev TI3:=G→(List D→G→Prop)→Prop
def Gv (K:PySem.W.Frag) (t:TI) (i3:TI3):Prop:=∀ (B:Bs) (F:Hp) (σ:L2.St) (H:Hp) (Γ:G) (Q:List D→G→Prop) (R:It→Hp→Prop),En K B F σ H Γ→i3 Γ Q→(∀ J H1 F1 Γ1 xs,aP F F1→En K B F1 σ H1 Γ1→ItR K F1 J xs→Q xs Γ1→R J H1)→t σ H R
structure P3I (K:PySem.W.Frag) (X:Cx) (tg iter:Expr) (t:TI) (i3:TI3):Prop where
 pe:PI X tg iter t
 rf:Gv K t i3
abbrev TG3:=D→G→(G→Prop)→Prop
def DS (K:PySem.W.Frag) (g:TG) (g3:TG3):Prop:=∀ (B:Bs) (F:Hp) (σ:L2.St) (H:Hp) (Γ:G) (v:V) (d:D) (Q:G→Prop) (QQ:L2.St→Hp→Prop),En K B F σ H Γ→Rep K F d v→g3 d Γ Q→(∀ σ' Γ',En K B F σ' H Γ'→Q Γ'→QQ σ' H)→g v σ H QQ
structure P3G (K:PySem.W.Frag) (X:Cx) (tg:Expr) (g:TG) (g3:TG3):Prop where
 pe:PG X tg g
 rf:DS K g g3
def tgN (i:Nat) (d:D) (Γ:G) (Q:G→Prop):Prop:=cK Γ i∧Q (Γ.set i (some (.fz d)))
def tgT (is:List Nat) (d:D) (Γ:G) (Q:G→Prop):Prop:=∃ ds Γ',d=.tup ds∧gives Γ is ds=some Γ'∧frees Γ is ds∧Q Γ'
theorem cM {i:Nat} {x:Str} (hN:X.N.Nodup) (hi:X.N[i]?=some x) (hx:Loc X.env.scope x) (hf:X.fn x=true∨X.env.scope.names.lookup x=some .local:=by first | exact .inl rfl | exact .inr rfl | assumption):P3G K X (.Name x pos) (nE i) (tgN i):=
 ⟨bc hN hi hx hf,fun B F σ H Γ v d Q QQ e r q k=>k _ _ (e.set (r:=.fz d) q.1 r) q.2⟩
theorem gy {es:List Expr} {kt:Nat} {is:List Nat} (hK:X.K=K) (hg:PGs X es (ky is)) (hc:X.calm=true) (hn:(assignEach es X.env).length=is.length:=by rfl) (hst:(assignEach es X.env).findIdx? (·.1)=none:=by rfl) :
  P3G K X (.Tuple es kt pos) (Dv K is.length (ky is)) (tgT is):=⟨by subst hK;exact wW hc hg hn hst,fun B F σ H Γ v d Q QQ e r q k=>by
 obtain⟨ds,Γ',rfl,h1,h2,q⟩:=q
 obtain⟨p,vs,rfl,h4,h5⟩:=r
 exact⟨p,vs,rfl,.inl (.inl (e.sub _ _ h4)),by rw[h5.length,sJ h1],mj e h5 h1 h2 fun σ' e'=>k σ' Γ' e' q⟩⟩
theorem ItR.turn {J:It} {xs:List D} (R:ItR K F J xs) {F' H' H'':Hp} (s:aP F F') (e:En K B F' σ H' Γ) {i:Nat} {d:D} {x:V} (hd:xs[i]?=some d) (y:J.yld i H' x H''):∃ F2,aP F' F2∧En K B F2 σ H'' Γ∧Rep K F2 d x:=by
 rcases R.yld i H' x H'' d (s.trans e.sub) hd y with ⟨rfl,r⟩ | ⟨t,vs,ds,h1,rfl,rfl,r,rfl⟩
 ·exact⟨F',aP.refl F',e,r.mono s⟩
 ·exact⟨upd F' t (.tup vs),bQ (e.nof h1),(e.alloc h1 _).freeze (e.nof h1) aC (e.dom _ h1) (e.vE h1),t,vs,rfl,aC,r.mono (s.trans (bQ (e.nof h1)))⟩
def F8 (i3:TI3) (g3:TG3) (b3:TS3) (D:E3) (Γ:G):Prop:=i3 Γ fun xs Γ1=>∃ Iv:Nat→G→Prop,Iv 0 Γ1∧(∀ k d Γ,xs[k]?=some d→Iv k Γ→g3 d Γ fun Γ'=>b3 { D with nx:=Iv (k + 1),ct:=Iv (k + 1),bk:=D.nx } Γ')∧∀ Γ,Iv xs.length Γ→D.nx Γ
theorem ju {tg iter:Expr} {body:List Stmt} {wi:TI} {i3:TI3} {g:TG} {g3:TG3} {tb:TS} {b3:TS3} (hp:PassesOwn (model X.prog X.w) X.A X.env X.xe) (hc:X.calm=true) (hi:P3I K X tg iter wi i3) (hg:P3G K X tg g g3) (hb:uX K X body tb b3) (hs:∀ x,foldedSetIterable iter X.env x=pure x:=by intro _;rfl) :
  P3S K X (.For tg iter body [] pos) (GK wi g tb) (F8 i3 g3 b3):=⟨E6 hp hc hi.pe hg.pe hb.pe hs,fun B F σ H Γ D D3 e k q=>by
 refine hi.rf B F σ H Γ _ _ e q fun J H1 F1 Γ1 xs s1 e1 R ⟨Iv,i0,it,ie⟩=>?_
 refine⟨fun i m σ H=>m=xs.length - i∧i≤xs.length∧∃ F' Γ',aP F1 F'∧En K B F' σ H Γ'∧Iv i Γ',⟨_,rfl,Nat.zero_le _,F1,Γ1,aP.refl _,e1,i0⟩,?_⟩
 rintro i m σ2 H2 ⟨rfl,hi',F2,Γ2,s2,e2,iv⟩
 by_cases lt:i < xs.length
 ·refine .inr ⟨R.go i H2 (s2.trans e2.sub) lt,fun σ' H'=>∃ F' Γ',aP F1 F'∧En K B F' σ' H' Γ'∧Iv (i + 1) Γ',fun σ' H' ⟨F',Γ',a,b,c⟩=>⟨xs.length - (i + 1),by omega,rfl,lt,F',Γ',a,b,c⟩,fun x H3 y=>?_⟩
  have hd:xs[i]?=some xs[i]:=List.getElem?_eq_getElem lt
  obtain⟨F3,s3,e3,r3⟩:=R.turn s2 e2 hd y
  refine hg.rf B F3 σ2 H3 Γ2 x _ _ _ e3 r3 (it i _ Γ2 hd iv) fun σ' Γ' e4 q4=>?_
  have s4:=s2.trans s3
  refine hb.rf B F3 σ' H3 Γ' _ { D3 with nx:=Iv (i + 1),ct:=Iv (i + 1),bk:=D3.nx } e4 ⟨fun F' σ' H' Γ' s e q=>⟨F',Γ',s4.trans s,e,q⟩,fun F' σ' H' Γ' v r s e rv q=>k.rt F' σ' H' Γ' v r ((s1.trans s4).trans s) e rv q,fun F' σ' H' Γ' s e q=>k.nx F' σ' H' Γ' ((s1.trans s4).trans s) e q,fun F' σ' H' Γ' s e q=>⟨F',Γ',s4.trans s,e,q⟩⟩ q4
 ·have z:i=xs.length:=by omega
  subst z
  exact .inl ⟨R.stop _ H2 (s2.trans e2.sub) rfl,k.nx F2 σ2 H2 Γ2 (s1.trans s2) e2 (ie Γ2 iv)⟩⟩
def iL3 (a3:TE3) (Γ:G) (Q:List D→G→Prop):Prop:=a3 Γ fun r Γ1=>∃ xs,r.d=.lst xs∧Q xs Γ1
theorem gM {tg l:Expr} {tl:TE} {l3:TE3} (hK:X.K=K) (h:P3 K X l tl l3):P3I K X tg l (D9 K tl) (iL3 l3):=⟨by subst hK;exact CL h.pe,fun B F σ H Γ Q R e q k=>
 h.rf B F σ H Γ _ _ e q fun v H' ⟨F',Γ',r,s,e',rv,xs,hx,q'⟩=>by
  obtain⟨F2,s2,e2,r2⟩:=e'.frozen rv
  rw[hx] at r2
  obtain⟨p,vs,rfl,h1,h2⟩:=r2
  refine⟨p,rfl,⟨vs,SqL.of (e2.sub _ _ h1)⟩,k _ H' F2 Γ' xs (s.trans s2) e2 ⟨fun i H'' sm lt=>?_,fun i H'' sm ei=>?_,fun i H'' x H3 d sm hd y=>?_⟩ q'⟩
  ·rw[← h2.length] at lt
   exact⟨vs,vs[i],SqL.of (sm _ _ h1),by simp [lt]⟩
  ·exact⟨vs,SqL.of (sm _ _ h1),by rw[h2.length];omega⟩
  ·obtain⟨e1,y⟩:=y
   obtain⟨d',hd',r⟩:=h2.Du (y vs (SqL.of (sm _ _ h1)))
   rw[hd] at hd';cases hd'
   exact .inl ⟨e1,r⟩⟩
def rng (lo:Int) (n:Nat):List D:=(List.range n).map fun (k:Nat)=>D.int (lo + (k:Int))
theorem GS {lo:Int} {n:Nat}:ItR K F (Itr lo n) (rng lo n):=by
 have hl:(rng lo n).length=n:=by simp [rng]
 refine⟨fun i H' _ lt=>by rw[hl] at lt;exact lt,fun i H' _ e=>by rw[hl] at e;exact Nat.le_of_eq e.symm,fun i H' x H'' d _ hd y=>?_⟩
 obtain⟨e1,e2⟩:=y
 subst e1 e2
 refine .inl ⟨rfl,?_⟩
 have hi:i < n:=by have:=(List.getElem?_eq_some_iff.mp hd).1;rw[hl] at this;exact this
 have:(rng lo n)[i]?=some (.int (lo + i)):=by unfold rng;rw[List.getElem?_map,List.getElem?_range hi];rfl
 rw[this] at hd;cases hd
 rfl
def iR1 (t3:TA3) (Γ:G) (Q:List D→G→Prop):Prop:=t3 Γ fun ds Γ1=>∃ j:Int,ds=[.int j]∧-(2 ^ 62)≤j∧j < 2 ^ 62∧Q (rng 0 j.toNat) Γ1
def iR2 (t3:TA3) (Γ:G) (Q:List D→G→Prop):Prop:=t3 Γ fun ds Γ1=>∃ i j:Int,ds=[.int i,.int j]∧(-(2 ^ 62)≤i∧i < 2 ^ 62∧-(2 ^ 62)≤j∧j < 2 ^ 62)∧Q (rng i (j - i).toNat) Γ1
theorem dE {tg a:Expr} {ta:TA} {a3:TA3} {p pos:Pos} (hg:Gl X "range") (hm:X.mg "range"=none) (ha:P3A K X [a] ta a3) (hs:starEach [a] X.env=[(false,eval a X.env)]:=by rfl):P3I K X tg (.Call (.Name "range" p) [a] [] pos) (D8 ta) (iR1 a3):=⟨y9 hg hm ha.pe hs,fun B F σ H Γ Q R e q k=>
 ha.rf B F σ H Γ _ _ e q fun vs H' ⟨F',Γ',ds,s,e',rv,j,h1,h2,h3,q'⟩=>by
  subst h1
  obtain⟨v,ws,rfl,r1,r2⟩:=rv
  cases r1;cases r2
  exact⟨j,rfl,h2,h3,k _ H' F' Γ' _ s e' GS q'⟩⟩
def iA (xs ys:List D):List D:=(xs.zip ys).map fun p=>.tup [p.1,p.2]
def iZ3 (t3:TA3) (Γ:G) (Q:List D→G→Prop):Prop:=t3 Γ fun ds Γ1=>∃ xs ys,ds=[.lst xs,.lst ys]∧Q (iA xs ys) Γ1
theorem qh {xs ys:List D} {i:Nat} {d:D} (h:(iA xs ys)[i]?=some d):∃ x y,xs[i]?=some x∧ys[i]?=some y∧d=.tup [x,y]:=by
 unfold iA at h
 rw[List.getElem?_map] at h
 cases q:(xs.zip ys)[i]? with
 | none=>rw[q] at h;cases h
 | some p=>
  rw[q] at h;cases h
  rw[List.getElem?_zip_eq_some] at q
  exact⟨_,_,q.1,q.2,rfl⟩
theorem kr {a b:Expr} {ta:TA} {a3:TA3} {es:List Expr} {kt:Nat} {tp p pos:Pos} (hg:Gl X "zip") (hm:X.mg "zip"=none) (ha:P3A K X [a,b] ta a3) (hs:starEach [a,b] X.env=[(false,eval a X.env),(false,eval b X.env)]:=by rfl) (hs2:starEach [b] X.env=[(false,eval b X.env)]:=by rfl) :
  P3I K X (.Tuple es kt tp) (.Call (.Name "zip" p) [a,b] [] pos) (Hu ta) (iZ3 a3):=⟨Fb hg hm ha.pe hs hs2,fun B F σ H Γ Q R e q k=>
 ha.rf B F σ H Γ _ _ e q fun vs H' ⟨F',Γ',ds,s,e',rv,xs,ys,h1,q'⟩=>by
  subst h1
  obtain⟨v,ws,rfl,⟨p1,vs1,rfl,g1,r1⟩,w,ws',rfl,⟨p2,vs2,rfl,g2,r2⟩,r3⟩:=rv
  cases r3
  refine⟨p1,p2,vs1,vs2,rfl,e'.sub _ _ g1,e'.sub _ _ g2,k _ H' F' Γ' _ s e' ⟨fun i H'' sm lt=>?_,fun i H'' sm ei=>?_,fun i H'' x H3 d sm hd y=>?_⟩ q'⟩
  ·obtain⟨x,y,hx,hy,_⟩:=qh (List.getElem?_eq_getElem lt)
   obtain⟨v,hv,_⟩:=r1.get hx
   obtain⟨w,hw,_⟩:=r2.get hy
   exact⟨vs1,vs2,v,w,sm _ _ g1,sm _ _ g2,hv,hw⟩
  ·refine⟨vs1,vs2,sm _ _ g1,sm _ _ g2,?_⟩
   subst ei
   unfold iA
   rw[List.length_map,List.length_zip,r1.length,r2.length]
   omega
  ·obtain⟨t,zs1,zs2,x1,y1,ht,a1,a2,b1,b2,rfl,rfl⟩:=y
   rw[sm _ _ g1] at a1;cases a1
   rw[sm _ _ g2] at a2;cases a2
   obtain⟨dx,dy,hx,hy,rfl⟩:=qh hd
   obtain⟨v,hv,rv⟩:=r1.get hx
   obtain⟨w,hw,rw'⟩:=r2.get hy
   rw[b1] at hv;cases hv
   rw[b2] at hw;cases hw
   exact .inr ⟨t,_,[dx,dy],ht,rfl,rfl,⟨_,_,rfl,rv,_,_,rfl,rw',rfl⟩,rfl⟩⟩
def vU (xs:List D):List D:=xs.mapIdx fun i x=>.tup [.int i,x]
def iE3 (t3:TA3) (Γ:G) (Q:List D→G→Prop):Prop:=t3 Γ fun ds Γ1=>∃ xs,ds=[.lst xs]∧Q (vU xs) Γ1
theorem oK {xs:List D} {i:Nat} {d:D} (h:(vU xs)[i]?=some d):∃ x,xs[i]?=some x∧d=.tup [.int i,x]:=by
 unfold vU at h
 rw[List.getElem?_mapIdx] at h
 cases q:xs[i]? with
 | none=>rw[q] at h;cases h
 | some p=>rw[q] at h;cases h;exact⟨_,rfl,rfl⟩
theorem Dr {a:Expr} {ta:TA} {a3:TA3} {es:List Expr} {kt:Nat} {tp p pos:Pos} (hg:Gl X "enumerate") (hm:X.mg "enumerate"=none) (ha:P3A K X [a] ta a3) (hs:starEach [a] X.env=[(false,eval a X.env)]:=by rfl) :
  P3I K X (.Tuple es kt tp) (.Call (.Name "enumerate" p) [a] [] pos) (D_ ta) (iE3 a3):=⟨CM hg hm ha.pe hs,fun B F σ H Γ Q R e q k=>
 ha.rf B F σ H Γ _ _ e q fun vs H' ⟨F',Γ',ds,s,e',rv,xs,h1,q'⟩=>by
  subst h1
  obtain⟨v,ws,rfl,⟨p1,vs1,rfl,g1,r1⟩,r3⟩:=rv
  cases r3
  refine⟨p1,vs1,rfl,e'.sub _ _ g1,k _ H' F' Γ' _ s e' ⟨fun i H'' sm lt=>?_,fun i H'' sm ei=>?_,fun i H'' x H3 d sm hd y=>?_⟩ q'⟩
  ·obtain⟨x,hx,_⟩:=oK (List.getElem?_eq_getElem lt)
   obtain⟨v,hv,_⟩:=r1.get hx
   exact⟨vs1,v,sm _ _ g1,hv⟩
  ·refine⟨vs1,sm _ _ g1,?_⟩
   subst ei
   unfold vU
   rw[List.length_mapIdx,r1.length]
   exact Nat.le_refl _
  ·obtain⟨t,zs1,x1,ht,a1,b1,rfl,rfl⟩:=y
   rw[sm _ _ g1] at a1;cases a1
   obtain⟨dx,hx,rfl⟩:=oK hd
   obtain⟨v,hv,rv⟩:=r1.get hx
   rw[b1] at hv;cases hv
   exact .inr ⟨t,_,[.int i,dx],ht,rfl,rfl,⟨_,_,rfl,rfl,_,_,rfl,rv,rfl⟩,rfl⟩⟩
theorem tj {p:Addr} {vs:List V} (h:H p=some (.lst vs)):tyV K "list" (.ref p) H:=.inl ⟨rfl,_,SqL.of h⟩
theorem En.cO (e:En K B F σ H Γ) {i:Nat} {xs:List D} (h:cO Γ i=some xs):∃ p vs,σ[i]?=some (some (V.ref p))∧H p=some (.lst vs)∧ax K F xs vs:=by
 obtain⟨p,a,b,vs,c,d⟩:=e.hl i _ (sH h)
 exact⟨p,vs,a,c,d⟩
def DN (i:Nat) (e3:TE3) (Γ:G) (Q:RV→G→Prop):Prop:=(∃ xs,cO Γ i=some xs)∧e3 Γ fun r Γ1=>∃ xs,cO Γ1 i=some xs∧xs.length < sizeLine∧Q (.fz .non) (putD Γ1 i (.lst (xs++[r.d])))
theorem CB {te:TE} {e3:TE3} (i:Nat) (h:Ref K te e3):Ref K (tBM K "list" t5 (fH i) (iN te mM)) (DN i e3):=by
 intro B F σ H Γ Q QQ e ⟨⟨xs0,h0⟩,q⟩ k
 obtain⟨p,vs0,a0,b0,_⟩:=e.cO h0
 refine⟨_,a0,tj b0,h B F σ H Γ _ _ e q fun v H' ⟨F',Γ',r,s,e',rv,xs,hx,hz,q'⟩=>?_⟩
 obtain⟨F2,s2,e2,r2⟩:=e'.frozen rv
 obtain⟨p',vs,a,b,c⟩:=e2.cO hx
 rw[a0] at a;cases a
 exact⟨p,vs,v,rfl,rfl,b,by rw[c.length];exact hz,k _ _ ⟨F2,_,.fz .non,s.trans s2,e2.mut hx a0 (ax.append (ys:=[r.d]) c ⟨v,[],rfl,r2,rfl⟩),rfl,q'⟩⟩
def ext3 (i:Nat) (b3:TB3) (Γ:G) (Q:RV→G→Prop):Prop:=(∃ xs,cO Γ i=some xs)∧b3 Γ fun r Γ1=>∃ xs ys,cO Γ1 i=some xs∧r.at Γ1=some (.lst ys)∧xs.length + ys.length≤sizeLine∧Q (.fz .non) (putD Γ1 i (.lst (xs++ys)))
theorem CA {te:TE} {e3:TB3} (i:Nat) (h:rB K te e3):Ref K (tBM K "list" t4 (fH i) (iN te mM)) (ext3 i e3):=by
 intro B F σ H Γ Q QQ e ⟨⟨xs0,h0⟩,q⟩ k
 obtain⟨p,vs0,a0,b0,_⟩:=e.cO h0
 refine⟨_,a0,tj b0,h B F σ H Γ _ _ e q fun v H' ⟨F2,Γ',r,s,e2,rv,xs,ys,hx,hy,hz,q'⟩=>?_⟩
 obtain⟨p2,ws,rfl,b2,c2⟩:=e2.bo rv hy
 obtain⟨p',vs,a,b,c⟩:=e2.cO hx
 rw[a0] at a;cases a
 exact⟨p,p2,vs,ws,rfl,rfl,b,b2,by rw[c.length,c2.length];exact hz,k _ _ ⟨F2,_,.fz .non,s,e2.mut hx a0 (c.append c2),rfl,q'⟩⟩
def Ez (i:Nat) (f:List D→List D) (Γ:G) (Q:RV→G→Prop):Prop:=∃ xs,cO Γ i=some xs∧Q (.fz .non) (putD Γ i (.lst (f xs)))
variable {o e:Expr} {te:TE} {e3:TE3} {eb:TB3} {apos cpos:Pos}
theorem lz (i:Nat) {x:Str} {px:Pos} (hK:X.K=K) (hx:P3B K X (.Name x px) (fH i) (bor i)) (he:P3 K X e te e3) (hbase:attributeBase (.Name x px) "append" X.env (eval (.Name x px) X.env)=eval (.Name x px) X.env:=by rfl)
  (hfew:((backTo cpos (starEach [e] X.env)).all (fun x=>!x.1) && (backToKw cpos (keywordEach [] X.env)).all (fun x=>x.1.isSome)
   && decide ([e].length + ([]:List Keyword).length + (if ([]:List Keyword).isEmpty then 0 else 1) < 30))=true:=by rfl)
  (hline:(apos.endLine == cpos.line)=true:=by rfl) (hs:starEach [e] X.env=(false,eval e X.env)::starEach [] X.env:=by rfl) (hplain:(backTo cpos (starEach [] X.env)).any (·.1)=false:=by rfl) :
  P3 K X (.Call (.Attribute (.Name x px) "append" apos) [e] [] cpos) (tBM K "list" t5 (fH i) (iN te mM)) (DN i e3):=
 ⟨by subst hK;exact DZ PySem.F.plainAttrs_list PySem.F.slot_list_append PySem.F.type_list_append zi hx.pe (f_ he.pe lY hs) hbase hfew hline hs hplain,CB i he.rf⟩
theorem sA (i:Nat) {x:Str} {px:Pos} (hK:X.K=K) (hx:P3B K X (.Name x px) (fH i) (bor i)) (he:P3B K X e te eb) (hbase:attributeBase (.Name x px) "extend" X.env (eval (.Name x px) X.env)=eval (.Name x px) X.env:=by rfl)
  (hfew:((backTo cpos (starEach [e] X.env)).all (fun x=>!x.1) && (backToKw cpos (keywordEach [] X.env)).all (fun x=>x.1.isSome)
   && decide ([e].length + ([]:List Keyword).length + (if ([]:List Keyword).isEmpty then 0 else 1) < 30))=true:=by rfl)
  (hline:(apos.endLine == cpos.line)=true:=by rfl) (hs:starEach [e] X.env=(false,eval e X.env)::starEach [] X.env:=by rfl) (hplain:(backTo cpos (starEach [] X.env)).any (·.1)=false:=by rfl) :
  P3 K X (.Call (.Attribute (.Name x px) "extend" apos) [e] [] cpos) (tBM K "list" t4 (fH i) (iN te mM)) (ext3 i eb):=
 ⟨by subst hK;exact DZ PySem.F.plainAttrs_list PySem.F.slot_list_extend PySem.F.type_list_extend zh hx.pe (f_ he.pe lY hs) hbase hfew hline hs hplain,CA i he.rf⟩
def xZ (i:Nat) (k3:TB3) (e3:TE3) (D:E3) (Γ:G):Prop:=e3 Γ fun r Γ1=>(∃ xs,cO Γ1 i=some xs)∧k3 Γ1 fun b Γ2=>∃ xs k j,cO Γ2 i=some xs∧b.at Γ2=some (.int k)∧ixN xs.length k=some j∧D.nx (putD Γ2 i (.lst (xs.set j r.d)))
theorem Cr (i:Nat) {x:Str} {px p2:Pos} {k:Expr} {tk:TE} {k3:TB3} (hx:P3B K X (.Name x px) (fH i) (bor i)) (hk:P3B K X k tk k3) (he:P3 K X e te e3) (pe:PS X (.Assign [.Subscript (.Name x px) k p2] e pos) (pN te (Dw (fH i) tk x9))) :
  P3S K X (.Assign [.Subscript (.Name x px) k p2] e pos) (pN te (Dw (fH i) tk x9)) (xZ i k3 e3):=⟨pe,fun B F σ H Γ D D3 e k q=>
 he.rf B F σ H Γ _ _ e q fun v H' ⟨F',Γ',r,s,e',rv,⟨xs0,h0⟩,q'⟩=>by
  obtain⟨F2,s2,e2,r2⟩:=e'.frozen rv
  obtain⟨p,vs0,a0,b0,_⟩:=e2.cO h0
  refine⟨_,a0,hk.rf B F2 σ H' Γ' _ _ e2 q' fun u H2 ⟨F3,Γ3,bo,s3,e3,rb,xs,kk,j,hx,hb,hj,q3⟩=>?_⟩
  obtain⟨p',vs,a,b,c⟩:=e3.cO hx
  rw[a0] at a;cases a
  have hu:u=.int kk:=e3.bo rb hb
  exact⟨p,vs,kk,j,rfl,hu,b,by rw[c.length];exact hj,k.nx F3 σ _ _ ((s.trans s2).trans s3) (e3.mut hx a0 (ax.set (r2.mono s3) j c)) q3⟩⟩
end
end L3
namespace L3
open PySem L2 PySem.Spec
section
variable {K:PySem.W.Frag} {X:Cx} {B:Bs} {F H:Hp} {σ:L2.St} {Γ:G} {pos:Pos}
def iy:Option (Option Sl)→Option Sl
 | some (some (.fz d))=>some (.fz d)
 | some (some (.ow d))=>some (.ln d)
 | some (some (.ln d))=>some (.ln d)
 | _=>none
def nU (Γ:G):Bo→Option Sl
 | .d x=>some (.fz x)
 | .v i=>iy Γ[i]?
def dj:Option Bo→Option Nat
 | some (.v i)=>some i
 | _=>none
def AJ (Γ:G) (σ:L2.St) (k:Nat):Option Bo→Option (Nat×Addr)
 | some (.v i)=>match Γ[i]?,σ[i]? with
  | some (some (.ow _)),some (some (.ref p))=>some (k,p)
  | some (some (.ln _)),some (some (.ref p))=>some (k,p)
  | _,_=>none
 | _=>none
def ownOf (Γ:G) (σ:L2.St) (bs:List (Option Bo)):List (Nat×Addr):=(List.range bs.length).filterMap fun k=>(bs[k]?).bind (AJ Γ σ k)
theorem oe {bs:List (Option Bo)} {k:Nat} {p:Addr}:(k,p)∈ownOf Γ σ bs↔∃ i d,bs[k]?=some (some (Bo.v i))∧Hld Γ i d∧σ[i]?=some (some (V.ref p)):=by
 unfold ownOf
 rw[List.mem_filterMap]
 constructor
 ·rintro⟨k',_,h⟩
  cases q:bs[k']? with
  | none=>rw[q] at h;cases h
  | some o=>
   rw[q] at h
   change AJ Γ σ k' o=some (k,p) at h
   unfold AJ at h
   split at h
   ·rename_i i
    split at h
    ·rename_i d p' h1 h2
     cases h
     exact⟨i,d,q,.inl h1,h2⟩
    ·rename_i d p' h1 h2
     cases h
     exact⟨i,d,q,.inr h1,h2⟩
    ·cases h
   ·cases h
 ·rintro⟨i,d,h1,h2,h3⟩
  refine⟨k,List.mem_range.mpr (List.getElem?_eq_some_iff.mp h1).1,?_⟩
  rw[h1]
  show AJ Γ σ k (some (Bo.v i))=_
  unfold AJ
  rcases h2 with h2 | h2
  ·simp only[h2,h3]
  ·simp only[h2,h3]
def gr (Γ:G) (bs:List (Option Bo)):G:=bs.map fun o=>o.bind (nU Γ)
theorem jk {bs:List (Option Bo)} {k:Nat} {s:Sl}:(gr Γ bs)[k]?=some (some s)↔∃ bo,bs[k]?=some (some bo)∧nU Γ bo=some s:=by
 unfold gr
 rw[List.getElem?_map]
 constructor
 ·intro h
  cases q:bs[k]? with
  | none=>rw[q] at h;cases h
  | some o=>
   rw[q] at h
   cases o with
   | none=>cases h
   | some bo=>exact⟨bo,rfl,by simpa using h⟩
 ·rintro⟨bo,h1,h2⟩
  rw[h1];simp [h2]
theorem DK {bo:Bo} {d:D} (h:nU Γ bo=some (.ln d)):∃ i,bo=.v i∧Hld Γ i d:=by
 cases bo with
 | d x=>cases h
 | v i=>
  change iy Γ[i]?=_ at h
  unfold iy at h
  split at h
  ·cases h
  ·cases h;rename_i q;exact⟨i,rfl,.inl q⟩
  ·cases h;rename_i q;exact⟨i,rfl,.inr q⟩
  ·cases h
theorem DL {bo:Bo} {d:D} (h:nU Γ bo=some (.fz d)):bo=.d d∨∃ i,bo=.v i∧Γ[i]?=some (some (Sl.fz d)):=by
 cases bo with
 | d x=>cases h;exact .inl rfl
 | v i=>
  change iy Γ[i]?=_ at h
  unfold iy at h
  split at h
  ·cases h;rename_i q;exact .inr ⟨i,rfl,q⟩
  ·cases h
  ·cases h
  ·cases h
theorem uU {bo:Bo} {d:D}:nU Γ bo≠some (.ow d):=by
 intro h
 cases bo with
 | d x=>cases h
 | v i=>change iy Γ[i]?=_ at h;unfold iy at h;split at h <;> cases h
theorem uV {bs:List (Option Bo)}:∀ (k:Nat) (d:D),(gr Γ bs)[k]?≠some (some (Sl.ow d)):=fun k d h=>by
 obtain⟨bo,_,h⟩:=jk.mp h
 exact uU h
theorem En.inner (e:En K B F σ H Γ) {bs:List (Option Bo)} {σc:L2.St} (hl:σc.length=bs.length) (hσ:∀ (k:Nat) (bo:Bo) (s:Sl),bs[k]?=some (some bo)→nU Γ bo=some s→∃ v,σc[k]?=some (some v)∧pB K F σ bo v)
  (nd:∀ (k k' i:Nat),bs[k]?=some (some (Bo.v i))→bs[k']?=some (some (Bo.v i))→k=k'):En K ⟨F,H,ownOf Γ σ bs⟩ F σc H (gr Γ bs):=by
 have held:∀ {k d},Hld (gr Γ bs) k d→∃ i p,bs[k]?=some (some (Bo.v i))∧Hld Γ i d∧σ[i]?=some (some (V.ref p))∧σc[k]?=some (some (V.ref p)):=fun {k d} q=>by
  rcases q with q | q
  ·obtain⟨bo,h1,h2⟩:=jk.mp q
   exact absurd h2 uU
  ·obtain⟨bo,h1,h2⟩:=jk.mp q
   obtain⟨v,h3,h4⟩:=hσ k bo _ h1 h2
   obtain⟨i,rfl,h5⟩:=DK h2
   obtain⟨p,h6,_⟩:=e.hl i d h5
   rw[show σ[i]?=some (some v) from h4] at h6;cases h6
   exact⟨i,p,h1,h5,h4,h3⟩
 refine⟨e.sub,by unfold gr;rw[List.length_map];exact hl,?_,?_,?_,?_,?_,?_,aP.refl F,fun b o h=>.inl h,fun b o h _=>h,fun b h=>h⟩
 ·intro k d q
  obtain⟨bo,h1,h2⟩:=jk.mp q
  obtain⟨v,h3,h4⟩:=hσ k bo _ h1 h2
  refine⟨v,h3,?_⟩
  rcases DL h2 with rfl | ⟨i,rfl,h5⟩
  ·exact h4
  ·obtain⟨u,h6,h7⟩:=e.fz i d h5
   rw[show σ[i]?=some (some v) from h4] at h6;cases h6
   exact h7
 ·intro k d q
  obtain⟨i,p,h1,h2,h3,h4⟩:=held q
  obtain⟨p',h5,h6,h7⟩:=e.hl i d h2
  rw[h3] at h5;cases h5
  exact⟨p,h4,h6,h7⟩
 ·intro k d p q
  obtain⟨bo,h1,h2⟩:=jk.mp q
  exact absurd h2 uU
 ·intro k d p q a
  obtain⟨i,p',h1,h2,h3,h4⟩:=held (.inr q)
  rw[a] at h4;cases h4
  exact oe.mpr ⟨i,d,h1,h2,h3⟩
 ·intro k k' d d' p q1 q2 a1 a2
  obtain⟨i,p1,h1,h2,h3,h4⟩:=held q1
  obtain⟨i',p2,h1',h2',h3',h4'⟩:=held q2
  rw[a1] at h4;cases h4
  rw[a2] at h4';cases h4'
  have:=e.dis i i' d d' p h2 h2' h3 h3'
  subst this
  exact nd k k' i h1 h1'
 ·intro k p q
  obtain⟨i,d,h1,h2,h3⟩:=oe.mp q
  have ha:nU Γ (.v i)=some (.ln d):=by
   show iy Γ[i]?=_
   rcases h2 with h2 | h2 <;> rw[h2] <;> rfl
  obtain⟨v,h4,h5⟩:=hσ k _ _ h1 ha
  rw[show σ[i]?=some (some v) from h5] at h3;cases h3
  exact⟨h4,d,jk.mpr ⟨_,h1,ha⟩⟩
theorem qA {bs:List (Option Bo)}:∀ k p,(k,p)∈ownOf Γ σ bs→∃ j d,(bs.map dj)[k]?=some (some j)∧Hld Γ j d∧σ[j]?=some (some (V.ref p)):=fun k p h=>by
 obtain⟨i,d,h1,h2,h3⟩:=oe.mp h
 exact⟨i,d,by rw[List.getElem?_map,h1];rfl,h2,h3⟩
def ic (fr:List (Option Nat)):List (Option Bo):=fr.map fun o=>o.map Bo.v
def pj (fr:List (Option Nat)) (i3:TI3) (g3:TG3) (e3:TE3) (Γ:G) (Q:RV→G→Prop):Prop:=i3 Γ fun xs Γ1=>xs.length < sizeLine∧∃ Iv:Nat→List D→G→Prop,Iv 0 [] (gr Γ1 (ic fr))∧
 (∀ k d ys Γc,xs[k]?=some d→ys.length=k→Iv k ys Γc→g3 d Γc fun Γ2=>e3 Γ2 fun r Γ3=>Iv (k + 1) (ys++[r.d]) Γ3)∧∀ ys Γc,ys.length=xs.length→Iv xs.length ys Γc→Q (.fr (.lst ys)) (cL fr Γ1 Γc)
theorem BZ {fr:List (Option Nat)} (h:(fr.filterMap id).Nodup):∀ (k k' i:Nat),(ic fr)[k]?=some (some (Bo.v i))→(ic fr)[k']?=some (some (Bo.v i))→k=k':=by
 unfold ic
 have go:∀ (l:List (Option Nat)),(l.filterMap id).Nodup→∀ (k k' i:Nat),l[k]?=some (some i)→l[k']?=some (some i)→k=k':=by
  intro l
  induction l with
  | nil=>intro _ k k' i h;simp at h
  | cons o l ih=>
   intro hn k k' i h h'
   cases o with
   | none=>
    rw[List.filterMap_cons_none rfl] at hn
    cases k with
    | zero=>simp at h
    | succ k=>
     cases k' with
     | zero=>simp at h'
     | succ k'=>rw[ih hn k k' i (by simpa using h) (by simpa using h')]
   | some j=>
    rw[show List.filterMap id (some j::l)=j::List.filterMap id l from rfl,List.nodup_cons] at hn
    have mem:∀ {k:Nat},l[k]?=some (some i)→i∈l.filterMap id:=fun q=>List.mem_filterMap.mpr ⟨some i,List.mem_of_getElem? q,rfl⟩
    cases k with
    | zero=>
     simp at h;subst h
     cases k' with
     | zero=>rfl
     | succ k'=>exact absurd (mem (by simpa using h')) hn.1
    | succ k=>
     cases k' with
     | zero=>
      simp at h';subst h'
      exact absurd (mem (by simpa using h)) hn.1
     | succ k'=>rw[ih hn.2 k k' i (by simpa using h) (by simpa using h')]
 intro k k' i h1 h2
 refine go fr h k k' i ?_ ?_
 ·rw[List.getElem?_map] at h1
  cases q:fr[k]? with
  | none=>rw[q] at h1;cases h1
  | some o=>rw[q] at h1;cases o with | none=>cases h1 | some j=>cases h1;rfl
 ·rw[List.getElem?_map] at h2
  cases q:fr[k']? with
  | none=>rw[q] at h2;cases h2
  | some o=>rw[q] at h2;cases o with | none=>cases h2 | some j=>cases h2;rfl
theorem vQ {fr:List (Option Nat)}:(ic fr).map dj=fr:=by
 unfold ic
 rw[List.map_map]
 conv=>rhs;rw[← List.map_id fr]
 refine List.map_congr_left fun o _=>?_
 cases o <;> rfl
theorem En.blk (e:En K B F σ H Γ) {fr:List (Option Nat)} (nd:(fr.filterMap id).Nodup):En K ⟨F,H,ownOf Γ σ (ic fr)⟩ F (kU fr σ) H (gr Γ (ic fr)):=by
 refine e.inner (by unfold kU ic;simp) (fun k bo s h1 h2=>?_) (BZ nd)
 unfold ic at h1
 rw[List.getElem?_map] at h1
 cases q:fr[k]? with
 | none=>rw[q] at h1;cases h1
 | some o=>
  rw[q] at h1
  cases o with
  | none=>cases h1
  | some j=>
   cases h1
   have:∃ d,Gat Γ j=some d:=by
    change iy Γ[j]?=_ at h2
    unfold iy at h2
    unfold Gat
    split at h2 <;> first | (cases h2;done) | (rename_i w;rw[w];exact⟨_,rfl⟩) | exact⟨_,rfl⟩
   obtain⟨d,hd⟩:=this
   obtain⟨v,hv,_⟩:=e.get hd
   refine⟨v,?_,hv⟩
   unfold kU
   rw[List.getElem?_map,q]
   simp [hv]
theorem qt {fr:List (Option Nat)} {wi:TI} {i3:TI3} {g:TG} {g3:TG3} {te:TE} {e3:TE3} (nd:(fr.filterMap id).Nodup) (hi:Gv K wi i3) (hg:DS K g g3) (he:Ref K te e3):Ref K (sf fr wi g te) (pj fr i3 g3 e3):=by
 intro B F σ H Γ Q QQ e q k
 refine hi B F σ H Γ _ _ e q fun J H1 F1 Γ1 xs s1 e1 R ⟨hz,Iv,i0,it,ie⟩=>?_
 have eb:=e1.blk nd
 refine⟨fun i m ys σc H=>m=xs.length - i∧i≤xs.length∧∃ F' Γc ds,aP F1 F'∧En K ⟨F1,H1,ownOf Γ1 σ (ic fr)⟩ F' σc H Γc∧ax K F' ds ys∧ds.length=i∧Iv i ds Γc,⟨_,rfl,Nat.zero_le _,F1,_,[],aP.refl _,eb,rfl,rfl,i0⟩,?_⟩
 rintro i m ys σc H2 ⟨rfl,hi',F2,Γ2,ds,s2,e2,r2,hl,iv⟩
 refine⟨by rw[r2.length,hl];omega,?_⟩
 by_cases lt:i < xs.length
 ·refine .inr ⟨R.go i H2 (s2.trans e2.sub) lt,fun x H3 y=>?_⟩
  have hd:xs[i]?=some xs[i]:=List.getElem?_eq_getElem lt
  obtain⟨F3,s3,e3',r3⟩:=R.turn s2 e2 hd y
  refine hg _ F3 σc H3 Γ2 x _ _ _ e3' r3 (it i _ ds Γ2 hd hl iv) fun σ2 Γ4 e4 q4=>?_
  refine⟨fun y H5=>∃ F5 Γ5 r,aP F3 F5∧En K ⟨F1,H1,ownOf Γ1 σ (ic fr)⟩ F5 σ2 H5 Γ5∧lM K ⟨F1,H1,ownOf Γ1 σ (ic fr)⟩ F5 σ2 H5 Γ5 y r∧Iv (i + 1) (ds++[r.d]) Γ5,fun y H5 ⟨F5,Γ5,r,s5,e5,rv,iv5⟩=>?_,he _ F3 σ2 H3 Γ4 _ _ e4 q4 fun v H' p=>p⟩
  obtain⟨F6,s6,e6,r6⟩:=e5.frozen rv
  refine⟨xs.length - (i + 1),by omega,rfl,lt,F6,Γ5,ds++[r.d],((s2.trans s3).trans s5).trans s6,e6,?_,by simp [hl],iv5⟩
  exact ax.append (ys:=[r.d]) (r2.mono ((s3.trans s5).trans s6)) ⟨y,[],rfl,r6,rfl⟩
 ·have z:i=xs.length:=by omega
  subst z
  refine .inl ⟨R.stop _ H2 (s2.trans e2.sub) rfl,fun l hl'=>k _ _ ?_⟩
  have eo:En K B F2 σ H2 (cL fr Γ1 Γ2):=e1.back (ls:=fr) e2 (by have:=qA (Γ:=Γ1) (σ:=σ) (bs:=ic fr);rw[vQ] at this;exact this)
  exact Po.mono (s1.trans s2) (jw eo hl' r2 (ie ds Γ2 hl iv))
theorem gb {elt iter tg:Expr} {sc:Scope} {Nc:List Str} {fr:List (Option Nat)} {wi:TI} {i3:TI3} {g:TG} {g3:TG3} {te:TE} {e3:TE3} (hc:X.calm=true) (hi:P3I K X tg iter wi i3) (Bk:Blk X.N X.env.scope sc Nc fr)
  (hg:∀ s₀ H₀ C ex pn,P3G K (bX X sc Nc s₀ H₀ C ex pn) tg g g3) (he:∀ s₀ H₀ C ex pn,P3 K (bX X sc Nc s₀ H₀ C ex pn) elt te e3) (nd:(fr.filterMap id).Nodup:=by decide) (hs:∀ x,foldedSetIterable iter X.env x=pure x:=by intro _;rfl) :
  P3 K X (.ListComp elt [⟨tg,iter,[],0⟩] sc pos) (sf fr wi g te) (pj fr i3 g3 e3):=
 ⟨CP hc hi.pe Bk (fun a b c d e=>(hg a b c d e).pe) (fun a b c d e=>(he a b c d e).pe) hs,qt nd hi.rf (hg X.s₀ X.H₀ 0 [] []).rf (he X.s₀ X.H₀ 0 [] []).rf⟩
theorem dW {i:Nat} {x:Str} {px spos:Pos} {elt iter tg:Expr} {sc:Scope} {Nc:List Str} {fr:List (Option Nat)} {wi:TI} {i3:TI3} {g:TG} {g3:TG3} {te:TE} {e3:TE3} (hN:X.N.Nodup) (hi':X.N[i]?=some x) (hx:X.env.scope.names.lookup x=some .local)
  (hc:X.calm=true) (hi:P3I K X tg iter wi i3) (Bk:Blk X.N X.env.scope sc Nc fr)
  (hg:∀ s₀ H₀ C ex pn,P3G K (bX X sc Nc s₀ H₀ C ex pn) tg g g3) (he:∀ s₀ H₀ C ex pn,P3 K (bX X sc Nc s₀ H₀ C ex pn) elt te e3) (nd:(fr.filterMap id).Nodup:=by decide)
  (hsw:swapsWith (.ListComp elt [⟨tg,iter,[],0⟩] sc pos) (some (.Name x px)) spos.line X.env=pure true:=by rfl) (hs:∀ x,foldedSetIterable iter X.env x=pure x:=by intro _;rfl) :
  P3S K X (.Assign [.Name x px] (.ListComp elt [⟨tg,iter,[],0⟩] sc pos) spos) (pN (sf fr wi g te) (nE i)) (y0 i (pj fr i3 g3 e3)):=
 ⟨qv hN hi' hx hc hi.pe Bk (fun a b c d e=>(hg a b c d e).pe) (fun a b c d e=>(he a b c d e).pe) hsw hs,tZ (qt nd hi.rf (hg X.s₀ X.H₀ 0 [] []).rf (he X.s₀ X.H₀ 0 [] []).rf)⟩
abbrev S3:=G→(RV→G→Prop)→Prop
def sp3 (K:PySem.W.Frag) (n:Nat) (S:S3):Sp:=fun vs H Q _=>vs.length=n∧∃ F own Γa Q3,En K ⟨F,H,own⟩ F (vs.map some) H Γa∧(∀ (k:Nat) (d:D),Γa[k]?≠some (some (Sl.ow d)))∧S Γa Q3∧∀ r Γ',Q3 r Γ'→∀ v H' F',En K ⟨F,H,own⟩ F' (vs.map some) H' Γ'→lM K ⟨F,H,own⟩ F' (vs.map some) H' Γ' v r→Q v H'
def e7:List Bo→List Nat
 | []=>[]
 | .d _::bs=>e7 bs
 | .v i::bs=>i::e7 bs
def qZ (n:Nat) (S:S3) (t3:jm) (Γ:G) (Q:RV→G→Prop):Prop:=t3 Γ fun bs Γ1=>bs.length=n∧(e7 bs).Nodup∧S (gr Γ1 (bs.map some)) fun r Γa=>Q r (cL ((bs.map some).map dj) Γ1 Γa)
theorem A4:∀ {bs:List Bo},(e7 bs).Nodup→∀ (k k' i:Nat),(bs.map some)[k]?=some (some (Bo.v i))→(bs.map some)[k']?=some (some (Bo.v i))→k=k':=by
 intro bs h k k' i h1 h2
 have key:((((bs.map some).map dj)).filterMap id)=e7 bs:=by
  clear h h1 h2
  induction bs with
  | nil=>rfl
  | cons b bs ih=>cases b with
   | d x=>simpa [dj,e7] using ih
   | v j=>simpa [dj,e7] using ih
 rw[← key] at h
 refine BZ h k k' i ?_ ?_
 ·unfold ic
  rw[List.getElem?_map,List.getElem?_map,h1];rfl
 ·unfold ic
  rw[List.getElem?_map,List.getElem?_map,h2];rfl
theorem dc.get {F:Hp}:∀ {bs:List Bo} {vs:List V},dc K F σ bs vs→∀ {k:Nat} {bo:Bo},bs[k]?=some bo→∃ v,vs[k]?=some v∧pB K F σ bo v
 | [],_,_,k,bo,e=>by simp at e
 | x::xs,_,⟨v,ws,h1,h2,h3⟩,0,d,e=>by subst h1;simp at e;subst e;exact⟨v,rfl,h2⟩
 | x::xs,_,⟨v,ws,h1,h2,h3⟩,i + 1,d,e=>by
  subst h1
  obtain⟨u,a,b⟩:=dc.get h3 (k:=i) (bo:=d) (by simpa using e)
  exact⟨u,by simpa using a,b⟩
theorem dc.length {F:Hp}:∀ {bs:List Bo} {vs:List V},dc K F σ bs vs→vs.length=bs.length
 | [],_,h=>by cases h;rfl
 | _::_,_,⟨v,ws,h1,h2,h3⟩=>by subst h1;simp [dc.length h3]
theorem En.args (e:En K B F σ H Γ) {bs:List Bo} {vs:List V} (r:dc K F σ bs vs) (nd:(e7 bs).Nodup):En K ⟨F,H,ownOf Γ σ (bs.map some)⟩ F (vs.map some) H (gr Γ (bs.map some)):=by
 refine e.inner (by simp [r.length]) (fun k bo s h1 h2=>?_) (A4 nd)
 rw[List.getElem?_map] at h1
 cases q:bs[k]? with
 | none=>rw[q] at h1;cases h1
 | some b=>
  rw[q] at h1;cases h1
  obtain⟨v,a,b⟩:=r.get q
  exact⟨v,by rw[List.getElem?_map,a];rfl,b⟩
theorem En.called (e:En K B F σ H Γ) {F' H':Hp} {bs:List (Option Bo)} {σc:L2.St} {Γa:G} {v:V} {r:RV} (e2:En K ⟨F,H,ownOf Γ σ bs⟩ F' σc H' Γa) (rv:lM K ⟨F,H,ownOf Γ σ bs⟩ F' σc H' Γa v r) :
  aP F F'∧En K B F' σ H' (cL (bs.map dj) Γ Γa)∧lM K B F' σ H' (cL (bs.map dj) Γ Γa) v r:=by
 have eo:=e.back e2 qA
 refine⟨e2.keep,eo,?_⟩
 have nw:∀ {p:Addr},H p=none→∀ (i:Nat) (x:D),Hld (cL (bs.map dj) Γ Γa) i x→σ[i]?≠some (some (V.ref p)):=fun {p} h4' i x hx hp=>by
  obtain⟨d0,w⟩:∃ d0,Hld Γ i d0:=by
   rcases hx with hx | hx <;> rw[fW] at hx
   ·cases w:Γ[i]? with
    | none=>rw[w] at hx;cases hx
    | some s=>rw[w] at hx;cases s with
     | none=>cases hx
     | some s=>cases s with
      | fz d=>cases hx
      | ow d=>exact⟨d,.inl w⟩
      | ln d=>cases hx
   ·cases w:Γ[i]? with
    | none=>rw[w] at hx;cases hx
    | some s=>rw[w] at hx;cases s with
     | none=>cases hx
     | some s=>cases s with
      | fz d=>cases hx
      | ow d=>cases hx
      | ln d=>exact⟨d,.inr w⟩
  obtain⟨p',a,b,c⟩:=e.hl i d0 w
  rw[hp] at a;cases a
  obtain⟨o,ho⟩:=c.some
  rw[h4'] at ho;cases ho
 cases r with
 | fz d=>exact rv
 | fr d=>
  obtain⟨p,h1,h2,h3,h4,h5⟩:=rv
  exact⟨p,h1,h2,h3,e.dom p h4,nw h4⟩
 | two xs ys=>
  obtain⟨t,p,q,vs,ws,h1,h2,h3,h4,h5,h6,h7,h8⟩:=rv
  exact⟨t,p,q,vs,ws,h1,h2,h3,h4,h5,h6,h7,fun z hz=>⟨(h8 z hz).1,e.dom z (h8 z hz).2.1,nw (h8 z hz).2.1⟩⟩
theorem vo {t:TA} {t3:jm} {S:S3} {n:Nat} {E:XK} (h:yM K t t3):Ref K (vb (sp3 K n S) [] E t) (qZ n S t3):=by
 intro B F σ H Γ Q QQ e q k
 refine h B F σ H Γ _ _ e q fun vs H1 ⟨F1,Γ1,bs,s1,e1,r1,hn,nd,q1⟩=>?_
 show sp3 K n S (vs++[]) H1 QQ E
 rw[List.append_nil]
 refine⟨by rw[r1.length];exact hn,F1,_,_,_,e1.args r1 nd,uV,q1,fun r Γa q v H' F' e2 rv=>?_⟩
 obtain⟨a,b,c⟩:=e1.called e2 rv
 exact k v H' ⟨F',_,r,s1.trans a,b,c,q⟩
def iV (Γa Γ':G):G:=Γa.mapIdx fun k s=>match s with
 | some (.ln d)=>(match Γ'[k]? with
  | some (some (.ln d'))=>some (.ln d')
  | _=>some (.ln d))
 | s=>s
theorem C4 {Γa Γ':G} {k:Nat} {d:D} (h:Γa[k]?=some (some (Sl.ln d))) {d':D} (h':Γ'[k]?=some (some (Sl.ln d'))):(iV Γa Γ')[k]?=some (some (Sl.ln d')):=by
 unfold iV
 rw[List.getElem?_mapIdx,h]
 simp [h']
theorem mV {Γa Γ':G} {k:Nat} {s:Sl} (h:(iV Γa Γ')[k]?=some (some s)):(∃ d d',Γa[k]?=some (some (Sl.ln d))∧s=.ln d')∨(Γa[k]?=some (some s)∧∀ d,s≠.ln d):=by
 unfold iV at h
 rw[List.getElem?_mapIdx] at h
 cases w:Γa[k]? with
 | none=>rw[w] at h;cases h
 | some o=>
  rw[w] at h
  cases o with
  | none=>cases h
  | some s'=>
   cases s' with
   | fz d=>cases h;exact .inr ⟨rfl,fun d z=>by cases z⟩
   | ow d=>cases h;exact .inr ⟨rfl,fun d z=>by cases z⟩
   | ln d=>
    left
    simp only[Option.map_some,Option.some.injEq] at h
    split at h
    ·cases h;exact⟨d,_,rfl,rfl⟩
    ·cases h;exact⟨d,_,rfl,rfl⟩
theorem En.out {F0 H0 F' H':Hp} {own:List (Nat×Addr)} {σa σ':L2.St} {Γa Γ':G} (e0:En K ⟨F0,H0,own⟩ F0 σa H0 Γa) (hno:∀ (k:Nat) (d:D),Γa[k]?≠some (some (Sl.ow d))) (e1:En K ⟨F0,H0,own⟩ F' σ' H' Γ') {v:V} {r:RV} (rv:lM K ⟨F0,H0,own⟩ F' σ' H' Γ' v r) :
  En K ⟨F0,H0,own⟩ F' σa H' (iV Γa Γ')∧lM K ⟨F0,H0,own⟩ F' σa H' (iV Γa Γ') v r:=by
 have lnk:∀ {k:Nat} {d:D},Γa[k]?=some (some (Sl.ln d))→∃ p d',(k,p)∈own∧σa[k]?=some (some (V.ref p))∧σ'[k]?=some (some (V.ref p))∧Γ'[k]?=some (some (Sl.ln d'))∧(iV Γa Γ')[k]?=some (some (Sl.ln d')):=fun {k d} h=>by
  obtain⟨p,a,b,c⟩:=e0.hl k d (.inr h)
  have m:=e0.ln k d p h a
  obtain⟨a',d',b'⟩:=e1.par k p m
  exact⟨p,d',m,a,a',b',C4 h b'⟩
 have hld:∀ {k:Nat} {d:D},Hld (iV Γa Γ') k d→∃ p d0,Γa[k]?=some (some (Sl.ln d0))∧(k,p)∈own∧σa[k]?=some (some (V.ref p))∧σ'[k]?=some (some (V.ref p))∧Γ'[k]?=some (some (Sl.ln d)):=fun {k d} h=>by
  rcases h with h | h
  ·rcases mV h with ⟨d1,d2,_,z⟩ | ⟨z,_⟩
   ·cases z
   ·exact absurd z (hno k d)
  ·rcases mV h with ⟨d1,d2,z,_⟩ | ⟨_,z⟩
   ·obtain⟨p,d',m,a,a',b',c'⟩:=lnk z
    rw[h] at c';cases c'
    exact⟨p,d1,z,m,a,a',b'⟩
   ·exact absurd rfl (z d)
 refine⟨⟨e1.sub,?_,?_,?_,?_,?_,?_,?_,e1.keep,e1.new,e1.rest,e1.dom⟩,?_⟩
 ·unfold iV;rw[List.length_mapIdx];exact e0.len
 ·intro k d q
  rcases mV q with ⟨d1,d2,_,z⟩ | ⟨z,_⟩
  ·cases z
  ·obtain⟨u,a,b⟩:=e0.fz k d z
   exact⟨u,a,b.mono e1.keep⟩
 ·intro k d q
  obtain⟨p,d0,_,m,a,a',b⟩:=hld q
  obtain⟨p',x,y,z⟩:=e1.hl k d (.inr b)
  rw[a'] at x;cases x
  exact⟨p,a,y,z⟩
 ·intro k d p q
  rcases mV q with ⟨d1,d2,_,z⟩ | ⟨z,_⟩
  ·cases z
  ·exact absurd z (hno k d)
 ·intro k d p q a
  obtain⟨p',d0,_,m,a',_⟩:=hld (.inr q)
  rw[a] at a';cases a'
  exact m
 ·intro k k' d d' p q1 q2 a1 a2
  obtain⟨p1,d1,z1,_⟩:=hld q1
  obtain⟨p2,d2,z2,_⟩:=hld q2
  exact e0.dis k k' d1 d2 p (.inr z1) (.inr z2) a1 a2
 ·intro k p q
  obtain⟨a,d,b⟩:=e0.par k p q
  obtain⟨p',d',m,a',_,_,c⟩:=lnk b
  exact⟨a,d',c⟩
 ·cases r with
  | fz d=>exact rv
  | fr d=>
   obtain⟨p,h1,h2,h3,h4,h5⟩:=rv
   refine⟨p,h1,h2,h3,h4,fun k x hx a=>?_⟩
   obtain⟨p',d0,_,m,a',b',c'⟩:=hld hx
   rw[a] at a';cases a'
   exact h5 k x (.inr c') b'
  | two xs ys=>
   obtain⟨t,p,q,vs,ws,h1,h2,h3,h4,h5,h6,h7,h8⟩:=rv
   refine⟨t,p,q,vs,ws,h1,h2,h3,h4,h5,h6,h7,fun z hz=>⟨(h8 z hz).1,(h8 z hz).2.1,fun k x hx a=>?_⟩⟩
   obtain⟨p',d0,_,m,a',b',c'⟩:=hld hx
   rw[a] at a';cases a'
   exact(h8 z hz).2.2 k x (.inr c') b'
end
end L3
namespace L3
open PySem L2 PySem.Spec PyProof.Rows
def gP (N:List Str) (Γa:G):G:=Γa++List.replicate (N.length - Γa.length) none
section
variable {P:Program} {w:World} {K:PySem.W.Frag} {mg:Str→Option Value} {base:Heap}
theorem En.start {B:Bs} {F H:Hp} {vs:List V} {Γa:G} {N:List Str} (e:En K B F (vs.map some) H Γa) (hl:Γa.length≤N.length):En K B F (L2.start N vs) H (gP N Γa):=by
 have len:=e.len
 rw[List.length_map] at len
 have hs:∀ {i:Nat},i < Γa.length→(L2.start N vs)[i]?=(vs.map some)[i]?:=fun {i} h=>by
  unfold L2.start
  rw[List.getElem?_append_left (by rw[List.length_map];omega)]
 have hg:∀ {i:Nat} {s:Sl},(gP N Γa)[i]?=some (some s)→i < Γa.length∧Γa[i]?=some (some s):=fun {i s} h=>by
  unfold gP at h
  by_cases lt:i < Γa.length
  ·rw[List.getElem?_append_left lt] at h;exact⟨lt,h⟩
  ·rw[List.getElem?_append_right (by omega)] at h
   have:=List.mem_of_getElem? h
   rw[List.mem_replicate] at this
   cases this.2
 have hh:∀ {i:Nat} {d:D},Hld (gP N Γa) i d→i < Γa.length∧Hld Γa i d:=fun h=>by
  rcases h with h | h
  ·exact⟨(hg h).1,.inl (hg h).2⟩
  ·exact⟨(hg h).1,.inr (hg h).2⟩
 refine⟨e.sub,?_,?_,?_,?_,?_,?_,?_,e.keep,e.new,e.rest,e.dom⟩
 ·unfold L2.start gP
  simp only[List.length_append,List.length_map,List.length_replicate]
  omega
 ·intro i d q
  obtain⟨lt,q⟩:=hg q
  rw[hs lt];exact e.fz i d q
 ·intro i d q
  obtain⟨lt,q⟩:=hh q
  rw[hs lt];exact e.hl i d q
 ·intro i d p q a
  obtain⟨lt,q⟩:=hg q
  rw[hs lt] at a;exact e.ow i d p q a
 ·intro i d p q a
  obtain⟨lt,q⟩:=hg q
  rw[hs lt] at a;exact e.ln i d p q a
 ·intro i j d d' p q1 q2 a1 a2
  obtain⟨l1,q1⟩:=hh q1
  obtain⟨l2,q2⟩:=hh q2
  rw[hs l1] at a1
  rw[hs l2] at a2
  exact e.dis i j d d' p q1 q2 a1 a2
 ·intro i p q
  obtain⟨a,d,b⟩:=e.par i p q
  have lt:i < Γa.length:=(List.getElem?_eq_some_iff.mp b).1
  refine⟨by rw[hs lt];exact a,d,?_⟩
  unfold gP
  rw[List.getElem?_append_left lt];exact b
theorem ok3 {x qual:Str} {st:Stmt} {f:Addr} {fd:FuncData} {N ps:List Str} {k:Nat} {S:S3} (F:Fun K x qual st f fd) (Sc:aw N ps (ab st)) (hN:ps.length≤N.length:=by decide)
  (hbody:∀ (cdv:Value) (A:Around) (outer:List Env) (s:Shared) (H:Hp) (E:XK),dQ k (A.deeper (envOfC qual (ab st) s.heap.objs.size f cdv))→
   ∃ t t3,uX K (vW CX0 P w K mg base N qual (ab st) f cdv A outer s H E).nox (ah st) t t3∧∀ Γa Q,S Γa Q→Γa.length=ps.length→t3 { nx:=fun Γ'=>Q (.fz .non) (iV Γa Γ'),rt:=fun r Γ'=>Q r (iV Γa Γ') } (gP N Γa)) :
  aY P w K mg base CX0 (k + 1) f fd ps (sp3 K ps.length S):=by
 refine F.ok Sc (fun vs H Q E h=>h.1) fun cdv A outer s H vs Q E hr h=>?_
 obtain⟨hl,F0,own,Γa,Q3,e,hno,hS,hQ⟩:=h
 obtain⟨t,t3,ht,rd⟩:=hbody cdv A outer s H E hr
 have hla:Γa.length=ps.length:=by rw[← e.len,List.length_map];exact hl
 refine⟨t,ht.pe,ht.rf ⟨F0,H,own⟩ F0 _ H _ _ { nx:=fun Γ'=>Q3 (.fz .non) (iV Γa Γ'),rt:=fun r Γ'=>Q3 r (iV Γa Γ') } (e.start (N:=N) (by rw[hla];exact hN)) ⟨?_,?_,fun _ _ _ _ _ _ z=>False.elim z,fun _ _ _ _ _ _ z=>False.elim z⟩ (rd Γa Q3 hS hla)⟩
 ·intro F' σ' H' Γ' s' e' q
  obtain⟨a,b⟩:=e.out hno e' (v:=.non) (r:=.fz .non) rfl
  exact hQ _ _ q _ _ _ a b
 ·intro F' σ' H' Γ' v r s' e' rv q
  obtain⟨a,b⟩:=e.out hno e' rv
  exact hQ _ _ q _ _ _ a b
end
section
variable {K:PySem.W.Frag} {X:Cx} {k:Nat} {f C:Addr} {fd:FuncData} {ps:List Str} {x m:Str} {p pos apos:Pos} {e o:Expr} {es:List Expr} {ta:TE} {t:TA} {t3:jm} {o3:TB3} {n:Nat} {S:S3}
theorem ar (hK:X.K=K) (F:aY X.prog X.w X.K X.mg X.base CX0 k f fd ps (sp3 K n S)) (hr:dQ k X.A) (hg:Gl X x) (hm:X.mg x=some (.ref f)) (hk:PySem.W.keepIn X.K (.ref f)=true) (hb:Binds X.K fd ps [])
  (ha:wx K X (e::es) t t3) (hdb:(x == ("__debug__":Str))=false:=by decide) (he:starEach (e::es) X.env=(false,eval e X.env)::starEach es X.env:=by rfl) (hpl:(backTo pos (starEach es X.env)).any (·.1)=false:=by rfl) :
  P3 K X (.Call (.Name x p) (e::es) [] pos) (vb (sp3 K n S) [] E0 t) (qZ n S t3):=⟨CS F hr hg hm hk hb .nil vv ha.pe hdb he hpl,vo ha.rf⟩
theorem AI (hK:X.K=K) (F:aY X.prog X.w X.K X.mg X.base CX0 k f fd ps (sp3 K n S)) (hr:dQ k X.A) (hg:Gl X x) (hm:X.mg x=some (.ref f)) (hk:PySem.W.keepIn X.K (.ref f)=true) (hb:Binds X.K fd ps [])
  (hdb:(x == ("__debug__":Str))=false:=by decide) :
  P3 K X (.Call (.Name x p) [] [] pos) (vb (sp3 K n S) [] E0 mM) (qZ n S AS):=⟨AE F hr hg hm hk hb .nil vv hdb,vo (ae (X:=X)).rf⟩
def iw (C:Addr) (m:Str) (n:Nat) (S:S3) (o3:TB3) (t3:jm) (Γ:G) (Q:RV→G→Prop):Prop:=o3 Γ fun x Γ1=>(∃ ns xs,x.at Γ1=some (.ins C ns xs)∧m∉ns)∧t3 Γ1 fun bs Γ2=>bs.length + 1=n∧(e7 (x::bs)).Nodup∧S (gr Γ2 ((x::bs).map some)) fun r Γa=>Q r (cL (((x::bs).map some).map dj) Γ2 Γa)
theorem zm {ns:List Str}:∀ {gs:List (Str×V)} {m:Str},gs.map (·.1)=ns→m∉ns→gs.lookup m=none:=by
 induction ns with
 | nil=>intro gs m h _;cases gs with | nil=>rfl | cons=>cases h
 | cons a ns ih=>
  intro gs m h hn
  cases gs with
  | nil=>cases h
  | cons g gs=>
   simp only[List.map_cons,List.cons.injEq] at h
   obtain⟨rfl,h⟩:=h
   rw[List.mem_cons,not_or] at hn
   obtain⟨g1,g2⟩:=g
   rw[List.lookup_cons,show (m == g1)=false from beq_eq_false_iff_ne.mpr hn.1]
   exact ih h hn.2
theorem vm (ho:rB K ta o3) (ha:yM K t t3):Ref K (u_ C m (sp3 K n S) [] E0 ta t) (iw C m n S o3 t3):=by
 intro B F σ H Γ Q QQ e q kk
 refine ho B F σ H Γ _ _ e q fun v H0 ⟨F0,Γ0,bo,s0,e0,r0,⟨ns,xs,hx,hm⟩,q0⟩=>?_
 obtain⟨p,dx,gs,rfl,h1,h2,h3⟩:=e0.bo r0 hx
 refine⟨p,dx,gs,rfl,h1,zm h2 hm,ha B F0 σ H0 Γ0 _ _ e0 q0 fun vs H1 ⟨F1,Γ1,bs,s1,e1,r1,hn,nd,q1⟩=>?_⟩
 show sp3 K n S (V.ref p::(vs++[])) H1 QQ E0
 rw[List.append_nil]
 have rr:dc K F1 σ (bo::bs) (V.ref p::vs):=⟨_,_,rfl,r0.mono s1,r1⟩
 refine⟨by rw[rr.length];exact hn,F1,_,_,_,e1.args rr nd,uV,q1,fun r Γa q v H' F' e2 rv=>?_⟩
 obtain⟨a,b,c⟩:=e1.called e2 rv
 exact kk v H' ⟨F',_,r,(s0.trans s1).trans a,b,c,q⟩
theorem av {pl:Sem Bool} (hK:X.K=K) (he:P3B K X o ta o3) (c:Cls X.K C) (hm:Meth X.K C m f) (F:aY X.prog X.w X.K X.mg X.base CX0 k f fd ps (sp3 K n S)) (hr:dQ k X.A) (hb:Binds X.K fd ps []) (ha:wx K X (e::es) t t3)
  (hst:starEach (e::es) X.env=(false,eval e X.env)::starEach es X.env:=by rfl) (hpl:(backTo pos (starEach es X.env)).any (·.1)=false:=by rfl)
  (ht:eval (.Call (.Attribute o m apos) (e::es) [] pos) X.env=(do
   let ov ← eval o X.env
   standAt apos.atName
   let (f,first) ← holding [ov] (getMethod ov m pl)
   callWith pos f first (backTo pos (starEach (e::es) X.env)) (backToKw pos (keywordEach [] X.env))):=by rfl) :
  P3 K X (.Call (.Attribute o m apos) (e::es) [] pos) (u_ C m (sp3 K n S) [] E0 ta t) (iw C m n S o3 t3):=⟨CN he.pe c hm F hr hb .nil vv ha.pe hst hpl ht,vm he.rf ha.rf⟩
theorem eI {pl:Sem Bool} (hK:X.K=K) (he:P3B K X o ta o3) (c:Cls X.K C) (hm:Meth X.K C m f) (F:aY X.prog X.w X.K X.mg X.base CX0 k f fd ps (sp3 K n S)) (hr:dQ k X.A) (hb:Binds X.K fd ps [])
  (ht:eval (.Call (.Attribute o m apos) [] [] pos) X.env=(do
   let ov ← eval o X.env
   standAt apos.atName
   let (f,first) ← holding [ov] (getMethod ov m pl)
   callWith pos f first (backTo pos (starEach [] X.env)) (backToKw pos (keywordEach [] X.env))):=by rfl) :
  P3 K X (.Call (.Attribute o m apos) [] [] pos) (u_ C m (sp3 K n S) [] E0 ta mM) (iw C m n S o3 AS):=⟨Az he.pe c hm F hr hb .nil vv ht,vm he.rf (ae (X:=X)).rf⟩
theorem P3.or {e:Expr} {t t':TE} {a3 b3:TE3} (h:P3 K X e t a3) (h':P3 K X e t' b3):P3 K X e (fun σ H Q=>t σ H Q∨t' σ H Q) (fun Γ Q=>a3 Γ Q∨b3 Γ Q):=
 ⟨fun pins s σ H Q I q=>q.elim (h.pe pins s σ H Q I) (h'.pe pins s σ H Q I),fun B F σ H Γ Q QQ e q k=>q.imp (fun q=>h.rf B F σ H Γ Q QQ e q k) (fun q=>h'.rf B F σ H Γ Q QQ e q k)⟩
theorem lx (M:Mk0 X.K C) (hg:Gl X x) (hm:X.mg x=some (.ref C)) (hdb:(x == ("__debug__":Str))=false:=by decide):P3 K X (.Call (.Name x p) [] [] pos) (xX C) (fun Γ Q=>Q (.fr (.ins C [] [])) Γ):=
 ⟨za M hg hm hdb,fun B F σ H Γ Q QQ e q k=>fun y dy hy hdy ne=>k _ _ (by
  have e1:=e.alloc hdy (.own y)
  have hy':(upd H dy (.own y)) y=none:=by rw[aj (Ne.symm ne)];exact hy
  exact⟨F,Γ,.fr (.ins C [] []),aP.refl F,e1.alloc hy' _,⟨y,rfl,e1.nof hy',⟨dy,[],aC,rfl,rfl⟩,e.dom _ hy,e1.vE hy'⟩,q⟩)⟩
end
end L3
namespace L3
open PySem L2 PySem.Spec
section
variable {K:PySem.W.Frag} {X:Cx} {B:Bs} {F H:Hp} {σ:L2.St} {Γ:G} {pos p:Pos} {x:Str}
theorem yd {n:String} (hg:Gl X x) (hm:X.mg x=none) (hv:bootBuiltins x=some (.type n)) (hn:x≠"__name__":=by decide) (hd:(x == ("__debug__":Str))=false:=by decide):P3 K X (.Name x pos) (tC (.ty n)) (t3C (.ty n)):=
 ⟨CT (v:=.ty n) hg hm hv rfl hn hd,sx fun _=>rfl⟩
theorem vh (i:Nat) {y:Str} {px p2:Pos} {k e:Expr} {tk te:TE} {k3:TB3} {e3:TE3} (hx:P3B K X (.Name y px) (fH i) (bor i)) (hk:P3B K X k tk k3) (he:P3 K X e te e3)
  (ha:∀ v,assign (.Subscript (.Name y px) k p2) X.env v=(do
   let ov ← holding [v] (eval (.Name y px) X.env)
   let iv ← holding [v,ov] (eval k X.env)
   standAt p2
   holding [v,ov,iv] (setItem ov iv v)
   release [v,ov,iv] []):=by intro _;rfl)
  (hs:swapsWithSole [.Subscript (.Name y px) k p2] e pos.line X.env=pure false:=by rfl) (hw:swappedStores [.Subscript (.Name y px) k p2] e X.env=pure none:=by rfl)
  (h1:(assignEach [.Subscript (.Name y px) k p2] X.env).map (·.2)=[assign (.Subscript (.Name y px) k p2) X.env]:=by rfl) :
  P3S K X (.Assign [.Subscript (.Name y px) k p2] e pos) (pN te (Dw (fH i) tk x9)) (xZ i k3 e3):=Cr i hx hk he (wU he.pe (Fe hx.pe hk.pe set_list ha) hs hw h1)
theorem En.grow (e:En K B F σ H Γ) {H':Hp} (s:aP H H') (S:Addr) (hS:H S=none):∃ F',aP F F'∧En K B F' σ H' Γ∧F' S=none∧∀ b o,b≠S→H b=none→H' b=some o→F' b=some o:=by
 refine⟨fun b=>if H b=none∧b≠S then H' b else F b,?_,?_,?_,?_⟩
 ·intro b o h
  show (if _ then _ else _)=_
  have:=e.sub b o h
  rw[if_neg (by rw[this];simp)];exact h
 ·refine⟨?_,e.len,?_,?_,e.ow,e.ln,e.dis,e.par,?_,?_,fun b o h n=>s b o (e.rest b o h n),fun b h=>e.dom b (s.free h)⟩
  ·intro b o h
   change (if _ then _ else _)=_ at h
   split at h
   ·exact h
   ·exact s b o (e.sub b o h)
  ·intro i d h
   obtain⟨v,a,b⟩:=e.fz i d h
   refine⟨v,a,b.mono fun b o h=>?_⟩
   show (if _ then _ else _)=_
   have:=e.sub b o h
   rw[if_neg (by rw[this];simp)];exact h
  ·intro i d h
   obtain⟨q,a,b,c⟩:=e.hl i d h
   obtain⟨o,ho⟩:=c.some
   refine⟨q,a,?_,c.mono (fun b o h=>?_) (by rw[ho];exact s _ _ ho)⟩
   ·show (if _ then _ else _)=_
    rw[if_neg (by rw[ho];simp)];exact b
   ·show (if _ then _ else _)=_
    have:=e.sub b o h
    rw[if_neg (by rw[this];simp)];exact h
  ·intro b o h
   have h':=e.keep b o h
   show (if _ then _ else _)=_
   have:=e.sub b o h'
   rw[if_neg (by rw[this];simp)];exact h'
  ·intro b o h
   change (if _ then _ else _)=_ at h
   split at h
   ·rename_i q;exact .inr (e.dom b q.1)
   ·exact e.new b o h
 ·show (if _ then _ else _)=_
  rw[if_neg (by simp)];exact e.nof hS
 ·intro b o n h h'
  show (if _ then _ else _)=_
  rw[if_pos ⟨h,n⟩];exact h'
def lz3 (t3:jm) (Γ:G) (Q:RV→G→Prop):Prop:=t3 Γ fun bs Γ1=>∃ xs ys,ats Γ1 bs=some [.lst xs,.lst ys]∧min xs.length ys.length < sizeLine∧Q (.fr (.lst (iA xs ys))) Γ1
theorem x6 {F:Hp}:∀ {ds:List D} {vs:List V},vs.length=ds.length→(∀ (i:Nat) d v,ds[i]?=some d→vs[i]?=some v→Rep K F d v)→ax K F ds vs
 | [],vs,h,_=>by cases vs with | nil=>rfl | cons=>simp at h
 | d::ds,vs,h,k=>by
  cases vs with
  | nil=>simp at h
  | cons v vs=>exact⟨v,vs,rfl,k 0 d v rfl rfl,x6 (by simpa using h) fun i d v h1 h2=>k (i + 1) d v (by simpa using h1) (by simpa using h2)⟩
theorem zN {xs ys:List D}:(iA xs ys).length=min xs.length ys.length:=by unfold iA;rw[List.length_map,List.length_zip]
theorem w9 {a b:Expr} {ta:TA} {t3:jm} {p p2 pos pos2:Pos} (hc:X.calm=true) (hg:Gl X "list") (hm:X.mg "list"=none) (hg2:Gl X "zip") (hm2:X.mg "zip"=none) (ha:wx K X [a,b] ta t3)
  (hs:starEach [a,b] X.env=[(false,eval a X.env),(false,eval b X.env)]:=by rfl) (hs2:starEach [b] X.env=[(false,eval b X.env)]:=by rfl) (hs3:starEach [Expr.Call (.Name "zip" p2) [a,b] [] pos2] X.env=[(false,eval (.Call (.Name "zip" p2) [a,b] [] pos2) X.env)]:=by rfl) :
  P3 K X (.Call (.Name "list" p) [.Call (.Name "zip" p2) [a,b] [] pos2] [] pos) (va ta) (lz3 t3):=⟨wY hc hg hm hg2 hm2 ha.pe hs hs2 hs3,by
 intro B F σ H Γ Q QQ e q k
 refine ha.rf B F σ H Γ _ _ e q fun vs H1 ⟨F1,Γ1,bs,s1,e1,r0,xs,ys,hd,hz,q1⟩=>?_
 obtain⟨v,w,rfl,⟨p1,vs1,rfl,g1,r1⟩,⟨p2,vs2,rfl,g2,r2⟩⟩:=(e1.bos r0 hd).two
 refine⟨p1,p2,vs1,vs2,rfl,g1,g2,by rw[r1.length,r2.length];exact hz,fun S ts H' hS sm h1 h2 h3 h4=>k _ _ ?_⟩
 obtain⟨F2,s2,e2,f2,g⟩:=e1.grow sm S hS
 have hS':∀ t∈ts,t≠S:=fun t ht z=>by
  subst z
  obtain⟨j,hj,hjt⟩:=List.getElem_of_mem ht
  have hx:j < vs1.length:=by rw[h2] at hj;omega
  have hy:j < vs2.length:=by rw[h2] at hj;omega
  have:=h3 j t _ _ (by rw[← hjt];exact List.getElem?_eq_getElem hj) (List.getElem?_eq_getElem hx) (List.getElem?_eq_getElem hy)
  rw[h1] at this;cases this
 refine⟨F2,Γ1,.fr (.lst (iA xs ys)),s1.trans s2,e2,⟨S,rfl,f2,⟨_,h1,?_⟩,e1.dom _ hS,e1.vE hS⟩,q1⟩
 refine x6 (by rw[List.length_map,h2,zN,r1.length,r2.length]) fun i d v hd hv=>?_
 obtain⟨dx,dy,hx,hy,rfl⟩:=qh hd
 rw[List.getElem?_map] at hv
 cases ht:ts[i]? with
 | none=>rw[ht] at hv;cases hv
 | some t=>
  rw[ht] at hv;cases hv
  obtain⟨v,hv,rv⟩:=r1.get hx
  obtain⟨w,hw,rw'⟩:=r2.get hy
  have m:=List.mem_of_getElem? ht
  exact⟨t,_,rfl,g t _ (hS' t m) (h4 t m) (h3 i t v w ht hv hw),⟨_,_,rfl,rv.mono s2,_,_,rfl,rw'.mono s2,rfl⟩⟩⟩
theorem mz {ls:List (Option Nat)} {cs:G} (h:ls.all (·.isNone)=true):cL ls Γ cs=Γ:=by
 have hn:∀ j,newD ls cs j=none:=by
  intro j
  cases q:newD ls cs j with
  | none=>rfl
  | some d=>
   obtain⟨k,a,_⟩:=iW q
   have:=List.all_eq_true.mp h _ (List.mem_of_getElem? a)
   cases this
 refine List.ext_getElem? fun i=>?_
 rw[fW,hn]
 cases q:Γ[i]? with
 | none=>rfl
 | some s=>cases s with
  | none=>rfl
  | some s=>cases s <;> rfl
end
end L3
namespace L3
open PySem L2 PySem.Spec
theorem B6 {α:Type} {a:α} {l:List α}:atI (a::l) 0=some a:=by
 unfold L2.atI ixN;simp
theorem B5 {α:Type} {a b:α} {l:List α}:atI (a::b::l) 1=some b:=by
 have:ixN (a::b::l).length 1=some 1:=by
  unfold ixN;rw[if_pos (by decide),if_pos (by simp;omega)];rfl
 unfold L2.atI;rw[this];rfl
theorem B4 {α:Type} {a b c:α} {l:List α}:atI (a::b::c::l) 2=some c:=by
 have:ixN (a::b::c::l).length 2=some 2:=by
  unfold ixN;rw[if_pos (by decide),if_pos (by simp;omega)];rfl
 unfold L2.atI;rw[this];rfl
theorem B2 {α:Type} {a b c d:α} {l:List α}:atI (a::b::c::d::l) 3=some d:=by
 have:ixN (a::b::c::d::l).length 3=some 3:=by
  unfold ixN;rw[if_pos (by decide),if_pos (by simp;omega)];rfl
 unfold L2.atI;rw[this];rfl
theorem xy:ixN 3 0=some 0:=rfl
theorem xx:ixN 3 1=some 1:=rfl
theorem xw:ixN 3 2=some 2:=rfl
theorem kY {α:Type} {xs:List α} {k:Int} {d:α} (h:0≤k) (e:xs[k.toNat]?=some d):atI xs k=some d:=by
 obtain⟨j,rfl⟩:∃ j:Nat,k=(j:Int):=⟨k.toNat,by omega⟩
 exact DI (by simpa using e)
theorem uS {ns:List Int} {k:Int} (h0:0≤k) (h1:k < (ns.length:Int)):atI (ns.map D.int) k=some (.int (ns.getD k.toNat 0)):=by
 refine kY h0 ?_
 have:k.toNat < ns.length:=by omega
 rw[List.getElem?_map,List.getElem?_eq_getElem this]
 simp [List.getD,this]
theorem DH {ns:List Int} {k:Int} (h0:0≤k) (h1:k < (ns.length:Int)):atI ns k=some (ns.getD k.toNat 0):=by
 refine kY h0 ?_
 have:k.toNat < ns.length:=by omega
 rw[List.getElem?_eq_getElem this]
 simp [List.getD,this]
theorem DJ {α:Type} {xs:List α} {k:Int} (h0:0≤k) (h1:k < (xs.length:Int)):∃ d,atI xs k=some d∧d∈xs:=by
 have:k.toNat < xs.length:=by omega
 exact⟨xs[k.toNat],kY h0 (List.getElem?_eq_getElem this),List.getElem_mem this⟩
theorem hX {ns:List Int} (h:1≤ns.length):atI (ns.map D.int) (-1)=some (.int (ns.getD (ns.length - 1) 0)):=by
 have e:ixN (ns.map D.int).length (-1)=some (ns.length - 1):=by
  unfold ixN
  rw[List.length_map,if_neg (by decide),if_pos (by omega)]
  congr 1
  omega
 unfold L2.atI
 rw[e]
 have:ns.length - 1 < ns.length:=by omega
 show (ns.map D.int)[ns.length - 1]?=_
 rw[List.getElem?_map,List.getElem?_eq_getElem this]
 simp [List.getD,this]
section
variable {K:PySem.W.Frag} {P:Program} {w:World} {mg:Str→Option Value} {base:Heap}
def D6 (n:Nat):S3:=fun Γ Q=>∃ ns:List Int,Γ=[some (.fz (.scr ns))]∧ns.length≤n∧∀ Γ',Q (.fz (.bl true)) Γ'
theorem FE {k n:Nat} {f:Addr} {fd:FuncData} {ps:List Str} (F:aY P w K mg base CX0 k f fd ps (sp3 K 1 (D6 n))) :
  aY P w K mg base CX0 k f fd ps (fun vs H Q _=>∃ (p:Addr) (ns:List Int),vs=[.ref p]∧SqL K H p (ns.map V.int)∧ns.length≤n∧∀ H',Q (.bl true) H'):=by
 refine F.imp fun vs H Q E h=>?_
 obtain⟨p,ns,rfl,hs,hn,q⟩:=h
 have go1:∀ {i:Nat} {s:Sl},([some (Sl.fz (.scr ns))]:G)[i]?=some (some s)→i=0∧s=.fz (.scr ns):=fun {i s} h=>by
  cases i with
  | zero=>cases h;exact⟨rfl,rfl⟩
  | succ i=>cases h
 refine⟨rfl,H,[],[some (.fz (.scr ns))],fun r _=>r=.fz (.bl true),⟨aP.refl H,rfl,?_,?_,?_,?_,?_,?_,aP.refl H,fun b o h=>.inl h,fun b o h _=>h,fun b h=>h⟩,?_,⟨ns,rfl,hn,fun _=>rfl⟩,?_⟩
 ·intro i d h
  obtain⟨rfl,e⟩:=go1 h
  cases e
  exact⟨_,rfl,p,rfl,hs⟩
 ·intro i d h
  rcases h with h | h <;> cases (go1 h).2
 ·intro i d p h
  cases (go1 h).2
 ·intro i d p h
  cases (go1 h).2
 ·intro i j d e p h
  rcases h with h | h <;> cases (go1 h).2
 ·intro i p h;cases h
 ·intro k d h
  cases (go1 h).2
 ·intro r Γ' e v H' F' _ rv
  subst e
  have:v=.bl true:=rv
  subst this
  exact q H'
end
end L3
namespace L3
open PySem L2 PySem.Spec PySem.SeqAt
def b2 (b:Bool):Int:=if b then 1 else 0
mutual
def eqN:Nat→D→D→Option Bool
 | _,.non,.non=>some true
 | _,.bl a,.bl b=>some (a == b)
 | _,.int a,.int b=>some (a == b)
 | _,.str a,.str b=>some (a == b)
 | n + 1,.lst xs,.lst ys=>fU n xs ys
 | n + 1,.tup xs,.tup ys=>fU n xs ys
 | _,_,_=>none
def fU:Nat→List D→List D→Option Bool
 | _,[],[]=>some true
 | n,x::xs,y::ys=>match eqN n x y,fU n xs ys with
  | some a,some b=>some (a && b)
  | _,_=>none
 | _,_,_=>some false
end
section
variable {K:PySem.W.Frag} {F H:Hp}
theorem qS {n:Nat}:∀ {xs ys:List D} {k:Bool},fU n xs ys=some k→xs.length≠ys.length→k=false
 | [],[],_,_,h=>absurd rfl h
 | x::xs,[],_,e,_=>by unfold fU at e;cases e;rfl
 | [],y::ys,_,e,_=>by unfold fU at e;cases e;rfl
 | x::xs,y::ys,k,e,h=>by
  unfold fU at e
  split at e
  ·rename_i a b ha hb
   cases e
   rw[qS hb (by simpa using h),Bool.and_false]
  ·cases e
theorem kO {n:Nat}:∀ {xs ys:List D} {k:Bool},fU n xs ys=some k→∃ e:Nat→Bool,(∀ (j:Nat) x y,xs[j]?=some x→ys[j]?=some y→eqN n x y=some (e j))∧k=((List.range (min xs.length ys.length)).all e && xs.length == ys.length)
 | [],[],k,h=>by unfold fU at h;cases h;exact⟨fun _=>true,fun j x y h=>by simp at h,by simp⟩
 | x::xs,[],k,h=>by unfold fU at h;cases h;exact⟨fun _=>true,fun j x y _ h=>by simp at h,by simp⟩
 | [],y::ys,k,h=>by unfold fU at h;cases h;exact⟨fun _=>true,fun j x y h=>by simp at h,by simp⟩
 | x::xs,y::ys,k,h=>by
  unfold fU at h
  split at h
  ·rename_i a b ha hb
   cases h
   obtain⟨e,h1,h2⟩:=kO hb
   refine⟨fun j=>match j with | 0=>a | j + 1=>e j,fun j x' y' hx hy=>?_,?_⟩
   ·cases j with
    | zero=>simp at hx hy;subst hx hy;exact ha
    | succ j=>exact h1 j x' y' (by simpa using hx) (by simpa using hy)
   ·subst h2
    have hm:min (x::xs).length (y::ys).length=min xs.length ys.length + 1:=by simp [Nat.succ_min_succ]
    rw[hm,List.range_succ_eq_map,List.all_cons,List.all_map]
    simp only[List.length_cons,Function.comp_def,Bool.and_assoc]
    congr 1
    congr 1
    simp
  ·cases h
mutual
theorem uB:∀ {n:Nat} {d d':D} {v:V} {k:Bool},Rep K F d v→Rep K F d' v→eqN n d d'=some k→k=true
 | n,d,d',v,k,h,h',e=>by
  unfold eqN at e
  split at e <;> first
   | (cases e;rfl)
   | (cases e;cases h;cases h';simp;done)
   | (cases e;cases h;cases h';done)
   | (cases e;cases h;obtain⟨_,_,z,_⟩:=h';cases z;done)
   | (cases e;cases h';obtain⟨_,_,z,_⟩:=h;cases z;done)
   | (obtain⟨p,vs,rfl,a,b⟩:=h;obtain⟨p',vs',q,a',b'⟩:=h';cases q;rw[a] at a';cases a';exact sL b b' e)
   | (obtain⟨p,vs,rfl,a,b⟩:=h;obtain⟨p',vs',q,a',b'⟩:=h';cases q;rw[a] at a';cases a';done)
   | (cases e;done)
theorem sL:∀ {n:Nat} {xs ys:List D} {vs:List V} {k:Bool},ax K F xs vs→ax K F ys vs→fU n xs ys=some k→k=true
 | n,[],[],_,k,_,_,e=>by unfold fU at e;cases e;rfl
 | n,x::xs,[],_,k,⟨v,ws,h1,_⟩,h',e=>by cases h';cases h1
 | n,[],y::ys,_,k,h,⟨v,ws,h1,_⟩,e=>by cases h;cases h1
 | n,x::xs,y::ys,_,k,⟨v,ws,h1,h2,h3⟩,⟨v',ws',h1',h2',h3'⟩,e=>by
  subst h1
  cases h1'
  unfold fU at e
  split at e
  ·rename_i a b ha hb
   cases e
   rw[uB h2 h2' ha,sL h3 h3' hb];rfl
  ·cases e
end
end
end L3
namespace L3
open PySem L2 PySem.Spec PySem.SeqAt
section
variable {K:PySem.W.Frag} {X:Cx} {F H:Hp} {pins:List (Addr×Obj)} {σ:L2.St} {s:Shared}
theorem Vals.at' {xs:List V} {us:List Value} (r:Vals xs us) {j:Nat} (h:j < us.toArray.size):∃ v,xs[j]?=some v∧RelV v (us.toArray[j]):=by
 have h1:j < xs.length:=by rw[r.length];simpa using h
 obtain⟨u,hu,ru⟩:=r.get (List.getElem?_eq_getElem h1)
 refine⟨_,List.getElem?_eq_getElem h1,?_⟩
 have:us.toArray[j]=u:=by
  have h2:j < us.length:=by simpa using h
  have h3:us[j]?=some us[j]:=List.getElem?_eq_getElem h2
  rw[hu] at h3;cases h3
  simp
 rw[this];exact ru
theorem uu (I:Inv X pins σ H s) {p:Addr} {vs:List V} (h:H p=some (.lst vs)):∃ its:List Value,Vals vs its∧s.heap.IsList p its.toArray:=by
 obtain⟨its,n,r,e,_⟩:=I.lst h
 exact⟨its,r,_,e,rfl,n,rfl⟩
theorem ur (I:Inv X pins σ H s) {p:Addr} {vs:List V} (h:H p=some (.tup vs)):∃ its:List Value,Vals vs its∧s.heap.IsTuple p its.toArray:=by
 obtain⟨its,r,⟨o,e,hc,n,d⟩,_⟩:=I.tuple (a:=p) (xs:=vs) (.inl (.inl h))
 exact⟨its,r,o,e,hc,n,d⟩
theorem uD {n:Nat} {A:Around} {xs ys:List D} {vs ws:List V} {us zs:List Value} {e:Nat→Bool} (ih:∀ {d d':D} {v v':V} {u u':Value} {k:Bool},Rep K F d v→Rep K F d' v'→RelV v u→RelV v' u'→eqN n d d'=some k→EqAt A s u u' k)
  (r1:ax K F xs vs) (r2:ax K F ys ws) (q1:Vals vs us) (q2:Vals ws zs) (he:∀ (j:Nat) x y,xs[j]?=some x→ys[j]?=some y→eqN n x y=some (e j)) :
  ∀ j (h1:j < us.toArray.size) (h2:j < zs.toArray.size),EqAt A s us.toArray[j] zs.toArray[j] (e j):=fun j h1 h2=>by
 obtain⟨v,hv,rv⟩:=Vals.at' q1 h1
 obtain⟨w,hw,rw'⟩:=Vals.at' q2 h2
 obtain⟨d,hd,rd⟩:=r1.Du hv
 obtain⟨d',hd',rd'⟩:=r2.Du hw
 exact ih rd rd' rv rw' (he j d d' hd hd')
theorem vp {n:Nat} {A:Around} {p q:Addr} {xs ys:List D} {vs ws:List V} {k:Bool} (I:Inv X pins σ H s) (ih:∀ {d d':D} {v v':V} {u u':Value} {k:Bool},Rep K F d v→Rep K F d' v'→RelV v u→RelV v' u'→eqN n d d'=some k→EqAt A.in1 s u u' k)
  (h1:H p=some (.lst vs)) (h2:H q=some (.lst ws)) (r1:ax K F xs vs) (r2:ax K F ys ws) (he:fU n xs ys=some k) (hu:A.units < cLine):RcAt A s (.ref p) (.ref q) k:=by
 obtain⟨us,q1,l1⟩:=uu I h1
 obtain⟨zs,q2,l2⟩:=uu I h2
 have n1:us.toArray.size=xs.length:=by rw[← r1.length,q1.length];simp
 have n2:zs.toArray.size=ys.length:=by rw[← r2.length,q2.length];simp
 by_cases hl:xs.length=ys.length
 ·obtain⟨e,g,rfl⟩:=kO he
  have:=RcAt.lists l1 l2 (by rw[n1,n2,hl]) hu (uD ih r1 r2 q1 q2 g)
  rw[n1] at this
  rw[hl,Nat.min_self,beq_self_eq_true,Bool.and_true]
  rw[hl] at this
  exact this
 ·rw[qS he hl]
  refine RcAt.lists_lengths l1 l2 ?_ hu
  rw[n1,n2,bne_iff_ne];exact hl
theorem sy {n:Nat} {A:Around} {p q:Addr} {xs ys:List D} {vs ws:List V} {k:Bool} (I:Inv X pins σ H s) (ih:∀ {d d':D} {v v':V} {u u':Value} {k:Bool},Rep K F d v→Rep K F d' v'→RelV v u→RelV v' u'→eqN n d d'=some k→EqAt A.in1 s u u' k)
  (h1:H p=some (.tup vs)) (h2:H q=some (.tup ws)) (r1:ax K F xs vs) (r2:ax K F ys ws) (he:fU n xs ys=some k) (hu:A.units < cLine):RcAt A s (.ref p) (.ref q) k:=by
 obtain⟨us,q1,l1⟩:=ur I h1
 obtain⟨zs,q2,l2⟩:=ur I h2
 have n1:us.toArray.size=xs.length:=by rw[← r1.length,q1.length];simp
 have n2:zs.toArray.size=ys.length:=by rw[← r2.length,q2.length];simp
 obtain⟨e,g,rfl⟩:=kO he
 have:=RcAt.tuples l1 l2 hu (uD ih r1 r2 q1 q2 g)
 rw[n1,n2] at this
 exact this
theorem uC (I:Inv X pins σ H s) (sm:aP F H):∀ (n:Nat) {A:Around} {d d':D} {v v':V} {u u':Value} {k:Bool},A.units + n < cLine→Rep K F d v→Rep K F d' v'→RelV v u→RelV v' u'→eqN n d d'=some k→EqAt A s u u' k:=by
 intro n
 induction n with
 | zero=>
  intro A d d' v v' u u' k hu r r' q q' e
  unfold eqN at e
  split at e <;> (try (cases e;done)) <;> (try (rename_i hn;cases hn;done)) <;> cases r <;> cases r'
  ·cases e;cases q;cases q';exact EqAt.same _
  ·cases e;cases q;cases q';exact .bool_bool _ _
  ·cases e;obtain⟨t,rfl⟩:=q;obtain⟨t',rfl⟩:=q';exact .int_int _ _ _ _
  ·cases e;obtain⟨t,rfl⟩:=q;obtain⟨t',rfl⟩:=q';exact .str_str _ _ _ _
 | succ n ih=>
  intro A d d' v v' u u' k hu r r' q q' e
  have hu0:A.units < cLine:=by omega
  have hu1:A.in1.units + n < cLine:=by show A.units + 1 + n < cLine;omega
  have e0:=e
  unfold eqN at e
  split at e
  ·cases r;cases r';cases e;cases q;cases q';exact EqAt.same _
  ·cases r;cases r';cases e;cases q;cases q';exact .bool_bool _ _
  ·cases r;cases r';cases e;obtain⟨t,rfl⟩:=q;obtain⟨t',rfl⟩:=q';exact .int_int _ _ _ _
  ·cases r;cases r';cases e;obtain⟨t,rfl⟩:=q;obtain⟨t',rfl⟩:=q';exact .str_str _ _ _ _
  ·
   rename_i n' xs ys hn;cases hn
   have r0:=r;have r0':=r'
   obtain⟨p,vs,rfl,a1,b1⟩:=r
   obtain⟨p',vs',rfl,a2,b2⟩:=r'
   cases q;cases q'
   by_cases z:p=p'
   ·subst z
    rw[uB r0 r0' e0]
    exact EqAt.same _
   ·exact .of_refs z (vp I (fun r r' q q' e=>ih hu1 r r' q q' e) (sm _ _ a1) (sm _ _ a2) b1 b2 e hu0)
  ·
   rename_i n' xs ys hn;cases hn
   have r0:=r;have r0':=r'
   obtain⟨p,vs,rfl,a1,b1⟩:=r
   obtain⟨p',vs',rfl,a2,b2⟩:=r'
   cases q;cases q'
   by_cases z:p=p'
   ·subst z
    rw[uB r0 r0' e0]
    exact EqAt.same _
   ·exact .of_refs z (sy I (fun r r' q q' e=>ih hu1 r r' q q' e) (sm _ _ a1) (sm _ _ a2) b1 b2 e hu0)
  ·cases e
def Ar (K:PySem.W.Frag) (n:Nat) (neg:Bool):R2:=fun x y H Q=>∃ F d d' k,aP F H∧hZ K F H d x∧hZ K F H d' y∧eqN (n + 1) d d'=some k∧Q (.bl (neg ^^ k)) H
theorem GW (I:Inv X pins σ H s) (sm:aP F H) (n:Nat) {A:Around} {d d':D} {v v':V} {u u':Value} {k:Bool} (hu:A.units + n + 1 < cLine) (r:hZ K F H d v) (r':hZ K F H d' v') (q:RelV v u) (q':RelV v' u') (e:eqN (n + 1) d d'=some k):RcAt A s u u' k:=by
 have hu0:A.units < cLine:=by omega
 have hu1:A.in1.units + n < cLine:=by show A.units + 1 + n < cLine;omega
 unfold eqN at e
 split at e
 ·cases r;cases r';cases e;cases q;cases q';exact .none_none
 ·cases r;cases r';cases e;cases q;cases q';exact .bool_bool _ _
 ·cases r;cases r';cases e;obtain⟨t,rfl⟩:=q;obtain⟨t',rfl⟩:=q';exact .int_int _ _ _ _
 ·cases r;cases r';cases e;obtain⟨t,rfl⟩:=q;obtain⟨t',rfl⟩:=q';exact .str_str _ _ _ _
 ·rename_i n' xs ys hn;cases hn
  obtain⟨p,vs,rfl,a1,b1⟩:=r
  obtain⟨p',vs',rfl,a2,b2⟩:=r'
  cases q;cases q'
  exact vp I (fun r r' q q' e=>uC I sm _ hu1 r r' q q' e) a1 a2 b1 b2 e hu0
 ·rename_i n' xs ys hn;cases hn
  obtain⟨p,vs,rfl,a1,b1⟩:=r
  obtain⟨p',vs',rfl,a2,b2⟩:=r'
  cases q;cases q'
  exact sy I (fun r r' q q' e=>uC I sm _ hu1 r r' q q' e) (sm _ _ a1) (sm _ _ a2) b1 b2 e hu0
 ·cases e
theorem Fs (hK:X.K=K) {n:Nat} (hu:X.A.units + n + 1 < cLine):OpR X (compareOp .Eq) (Ar K n false):=by
 intro pins s σ H x y v u Q I rx ry h
 obtain⟨F,d,d',k,sm,r,r',e,q⟩:=h
 refine GW I sm n hu r r' rx ry e _ _ _ _ (Bt I q (by simp))
def zz (n:Nat) (neg:Bool) (x y:D) (Γ:G) (Q:RV→G→Prop):Prop:=∃ k,eqN (n + 1) x y=some k∧Q (.fz (.bl (neg ^^ k))) Γ
theorem BC {n:Nat} {neg:Bool}:lU K (Ar K n neg) (zz n neg):=by
 intro B F σ H Γ x y dx dy Q QQ e rx ry q k
 obtain⟨b,hb,q⟩:=q
 exact⟨F,dx,dy,b,e.sub,rx,ry,hb,k _ _ (qw e q)⟩
theorem hV (hK:X.K=K) {k:Nat} (hr:dQ k X.A):C3 K X .Eq (Ar K 20 false) (zz 20 false):=⟨Fs hK (by have:=hr.un;omega),BC⟩
end
end L3
namespace L3
open PySem L2 PySem.Spec PySem.SeqAt
section
variable {K:PySem.W.Frag} {X:Cx} {F H:Hp} {pins:List (Addr×Obj)} {σ:L2.St} {s:Shared}
theorem Af {n:Nat} {A:Around} {p q:Addr} {xs ys:List D} {vs ws:List V} {k:Bool} (I:Inv X pins σ H s) (ih:∀ {d d':D} {v v':V} {u u':Value} {k:Bool},Rep K F d v→Rep K F d' v'→RelV v u→RelV v' u'→eqN n d d'=some k→EqAt A.in1 s u u' k)
  (h1:H p=some (.lst vs)) (h2:H q=some (.lst ws)) (r1:ax K F xs vs) (r2:ax K F ys ws) (he:fU n xs ys=some k) (hu:A.units < cLine):RcNeAt A s (.ref p) (.ref q) (!k):=by
 obtain⟨us,q1,l1⟩:=uu I h1
 obtain⟨zs,q2,l2⟩:=uu I h2
 have n1:us.toArray.size=xs.length:=by rw[← r1.length,q1.length];simp
 have n2:zs.toArray.size=ys.length:=by rw[← r2.length,q2.length];simp
 by_cases hl:xs.length=ys.length
 ·obtain⟨e,g,rfl⟩:=kO he
  have:=RcNeAt.lists l1 l2 (by rw[n1,n2,hl]) hu (uD ih r1 r2 q1 q2 g)
  rw[n1] at this
  rw[hl,Nat.min_self,beq_self_eq_true,Bool.and_true]
  rw[hl] at this
  exact this
 ·rw[qS he hl]
  refine RcNeAt.lists_lengths l1 l2 ?_ hu
  rw[n1,n2,bne_iff_ne];exact hl
theorem y6 {n:Nat} {A:Around} {p q:Addr} {xs ys:List D} {vs ws:List V} {k:Bool} (I:Inv X pins σ H s) (ih:∀ {d d':D} {v v':V} {u u':Value} {k:Bool},Rep K F d v→Rep K F d' v'→RelV v u→RelV v' u'→eqN n d d'=some k→EqAt A.in1 s u u' k)
  (h1:H p=some (.tup vs)) (h2:H q=some (.tup ws)) (r1:ax K F xs vs) (r2:ax K F ys ws) (he:fU n xs ys=some k) (hu:A.units < cLine):RcNeAt A s (.ref p) (.ref q) (!k):=by
 obtain⟨us,q1,l1⟩:=ur I h1
 obtain⟨zs,q2,l2⟩:=ur I h2
 have n1:us.toArray.size=xs.length:=by rw[← r1.length,q1.length];simp
 have n2:zs.toArray.size=ys.length:=by rw[← r2.length,q2.length];simp
 obtain⟨e,g,rfl⟩:=kO he
 have:=RcNeAt.tuples l1 l2 hu (uD ih r1 r2 q1 q2 g)
 rw[n1,n2] at this
 exact this
theorem GV (I:Inv X pins σ H s) (sm:aP F H) (n:Nat) {A:Around} {d d':D} {v v':V} {u u':Value} {k:Bool} (hu:A.units + n + 1 < cLine) (r:hZ K F H d v) (r':hZ K F H d' v') (q:RelV v u) (q':RelV v' u') (e:eqN (n + 1) d d'=some k):RcNeAt A s u u' (!k):=by
 have hu0:A.units < cLine:=by omega
 have hu1:A.in1.units + n < cLine:=by show A.units + 1 + n < cLine;omega
 unfold eqN at e
 split at e
 ·cases r;cases r';cases e;cases q;cases q';exact .none_none
 ·cases r;cases r';cases e;cases q;cases q';exact .bool_bool _ _
 ·cases r;cases r';cases e;obtain⟨t,rfl⟩:=q;obtain⟨t',rfl⟩:=q';exact .int_int _ _ _ _
 ·cases r;cases r';cases e;obtain⟨t,rfl⟩:=q;obtain⟨t',rfl⟩:=q';exact .str_str _ _ _ _
 ·rename_i n' xs ys hn;cases hn
  obtain⟨p,vs,rfl,a1,b1⟩:=r
  obtain⟨p',vs',rfl,a2,b2⟩:=r'
  cases q;cases q'
  exact Af I (fun r r' q q' e=>uC I sm _ hu1 r r' q q' e) a1 a2 b1 b2 e hu0
 ·rename_i n' xs ys hn;cases hn
  obtain⟨p,vs,rfl,a1,b1⟩:=r
  obtain⟨p',vs',rfl,a2,b2⟩:=r'
  cases q;cases q'
  exact y6 I (fun r r' q q' e=>uC I sm _ hu1 r r' q q' e) (sm _ _ a1) (sm _ _ a2) b1 b2 e hu0
 ·cases e
theorem Fo (hK:X.K=K) {n:Nat} (hu:X.A.units + n + 1 < cLine):OpR X (compareOp .NotEq) (Ar K n true):=by
 intro pins s σ H x y v u Q I rx ry h
 obtain⟨F,d,d',k,sm,r,r',e,q⟩:=h
 refine GV I sm n hu r r' rx ry e _ _ _ _ (Bt I q (by simp))
theorem q8 (hK:X.K=K) {k:Nat} (hr:dQ k X.A):C3 K X .NotEq (Ar K 20 true) (zz 20 true):=⟨Fo hK (by have:=hr.un;omega),BC⟩
theorem sM {n:Nat}:∀ (xs ys:List Int),fU n (xs.map .int) (ys.map .int)=some (decide (xs=ys))
 | [],[]=>by simp [fU]
 | x::xs,[]=>by simp [fU]
 | [],y::ys=>by simp [fU]
 | x::xs,y::ys=>by
  simp only[List.map_cons,fU,sM xs ys,eqN]
  congr 1
  rw[Bool.eq_iff_iff]
  simp
theorem i4 {n:Nat} (xs ys:List Int):eqN (n + 1) (.lst (xs.map .int)) (.lst (ys.map .int))=some (decide (xs=ys)):=by
 unfold eqN;exact sM xs ys
end
end L3
namespace L2
open PySem PySem.Spec PyProof.Rows
structure Acc (Y:Cx) (D:Addr) (pl:List (Addr×Obj)) (ys:List V) (σ:St) (H:Hp) (s:Shared):Prop where
 us:∃ us,Inv Y ((D,cm us us.length)::pl) σ H s∧Vals ys us
 exD:D∈Y.ex
 nd:∀ p∈Y.pn++pl,p.1≠D
abbrev TB:=List V→St→Hp→(List V→St→Hp→Prop)→Prop
def PB (Y:Cx) (D:Addr) (m:Sem Fin→Sem Fin) (t:TB):Prop:=
 ∀ (k:Sem Fin) (pl:List (Addr×Obj)) (s:Shared) (ys:List V) (σ:St) (H:Hp) (Q:List V→St→Hp→Prop) (R:Fin→Shared→Prop),Acc Y D pl ys σ H s→t ys σ H Q→
  (∀ ys' σ' H' s',Acc Y D pl ys' σ' H' s'→Q ys' σ' H'→wpAny (model Y.prog Y.w) Y.A k R (fun _ _=>False) s')→wpAny (model Y.prog Y.w) Y.A (m k) R (fun _ _=>False) s
section
variable {Y:Cx} {D:Addr}
def yI (te:TE):TB:=fun ys σ H Q=>ys.length < sizeLine∧te σ H fun y H'=>Q (ys++[y]) σ H'
abbrev BE (elt:Expr) (D:Addr) (env:Env) (k:Sem Fin):Sem Fin:=(eval elt env >>= fun x=>call (.builtin "list.append") [.ref D,x] >>= fun _=>pure ()) >>= fun _=>k
theorem Acc.pins {pl:List (Addr×Obj)} {ys:List V} {σ σ':St} {H H':Hp} {s s':Shared} {us:List Value} (a:Acc Y D pl ys σ H s) (I:Inv Y ((D,cm us us.length)::pl) σ' H' s') (r:Vals ys us):Acc Y D pl ys σ' H' s':=⟨⟨us,I,r⟩,a.exD,a.nd⟩
theorem CU {elt:Expr} {te:TE} (hx:Y.xe=fun _ _=>False) (he:PE Y elt te):PB Y D (BE elt D Y.env) (yI te):=by
 intro k pl s ys σ H Q R a ⟨hz,q⟩ hk
 obtain⟨us,I,rv⟩:=a.us
 have he':=he _ s σ H _ I q
 rw[hx] at he'
 refine wpAny_bind (wpAny_bind (thn he' fun y s7 ⟨yv,H7,I7,r7,q7⟩=>wpAny_bind ?_))
 obtain⟨pD,pH,pL,pF,pc⟩:=I7.pin (D,cm us us.length) (List.mem_append_right _ List.mem_cons_self)
 have hlen:us.length=ys.length:=rv.length.symm
 refine append_at (hsz:=by rw[List.size_toArray,hlen];exact Nat.le_of_lt hz) pD fun h8 sb8 hD8=>wpAny_pure ?_
 have I7n:Inv Y pl σ H7 s7:=I7.jx fun p z=>I7.pin p (List.mem_append_right _ (List.mem_cons_of_mem _ z))
 have I8:Inv Y pl σ H7 { s7 with heap:=h8 }:=I7n.turned (t':=s7.toks) (it:=D) (fun b o hb e=>(sb8.2 b hb).trans e) pH pL (.inl a.exD) (fun x c e=>(I7.ok.exf D a.exD).2 x c e) a.nd
 have e8:h8.get? D=some (cm (us++[y]) (us++[y]).length):=by
  rw[hD8]
  simp
 refine hk (ys++[yv]) σ H7 _ ⟨⟨us++[y],I8.jx fun p z=>?_,rv.append (.cons r7 .nil)⟩,a.exD,a.nd⟩ q7
 rcases List.mem_cons.mp z with e | z
 ·subst e;exact⟨e8,pH,pL,pF,fun v z=>by cases z⟩
 ·exact I8.pin p (List.mem_append_right _ z)
def bIf (tc:TT) (t:TB):TB:=fun ys σ H Q=>tc σ H fun b H'=>if b=true then t ys σ H' Q else Q ys σ H'
abbrev ifK (c:Expr) (env:Env) (m:Sem Fin→Sem Fin) (k:Sem Fin):Sem Fin:=(forIn [c] true fun c r=>if r=true then do let ok ← isTrue c env (eval c env);pure (ForInStep.yield ok) else pure (ForInStep.yield r)) >>= fun ok=>if ok=true then m k else k
theorem Ha {c:Expr} {tc:TT} {m:Sem Fin→Sem Fin} {t:TB} (hx:Y.xe=fun _ _=>False) (hc:PT Y c tc) (hm:PB Y D m t):PB Y D (ifK c Y.env m) (bIf tc t):=by
 intro k pl s ys σ H Q R a q hk
 obtain⟨us,I,rv⟩:=a.us
 have hc':=hc _ s σ H _ I q
 rw[hx] at hc'
 refine wpAny_bind (wpAny_tests_one (thn hc' fun b s1 ⟨H1,I1,q1⟩=>?_))
 cases b with
 | true=>exact hm k pl s1 ys σ H1 Q R (a.pins I1 rv) (by simpa using q1) hk
 | false=>exact hk ys σ H1 s1 (a.pins I1 rv) (by simpa using q1)
def wt (J:It) (g:TG) (t:TB):TB:=fun ys σ H Q=>∃ W:Nat→Nat→List V→St→Hp→Prop,(∃ m,W 0 m ys σ H)∧∀ i m ys σ H,W i m ys σ H→
 (J.stop i H∧Q ys σ H)∨(J.go i H∧∀ x H',J.yld i H x H'→g x σ H' fun σ2 H2=>t ys σ2 H2 fun ys' σ' H''=>∃ m',m' < m∧W (i + 1) m' ys' σ' H'')
theorem Hj {elt:Expr} {gens:List Comprehension} {sc:Scope} {pos p0:Pos} {d:Nat} {tg:Expr} {it:Addr} {fp:List Addr} {tn:Nat→Heap→Prop} {J:It} {g:TG} {m:Sem Fin→Sem Fin} {t:TB}
  (hx:Y.xe=fun _ _=>False) (hc:Y.calm=true) (T:Turn Y.prog Y.w Y.K tg J fp it tn) (hg:PG Y tg g) (hm:PB Y D m t)
  (hturn:compTurn (.ListComp elt gens sc pos) d (.ref it) (.ref D) Y.env=(standAt p0 >>= fun _=>pyNext (.ref it) >>= fun r=>match r with
   | none=>pure (.done .next)
   | some v=>letOwnedTupleGo tg (.ref it) v >>= fun _=>assign tg Y.env v >>= fun _=>m (again (.compLoop (.ListComp elt gens sc pos) d (.ref it) (.ref D) Y.env))))
  {pl:List (Addr×Obj)} {ys:List V} {σ:St} {H:Hp} {s:Shared} {Q:List V→St→Hp→Prop} {R:Result→Shared→Prop} (a:Acc Y D pl ys σ H s) (st:tn 0 s.heap) (f:∀ b∈fp,fX Y pl H b∧D≠b) (q:wt J g t ys σ H Q)
  (hR:∀ ys' σ' H' s',Acc Y D pl ys' σ' H' s'→Q ys' σ' H'→R (.ok .next) s'):codeAny (model Y.prog Y.w) Y.A (.compLoop (.ListComp elt gens sc pos) d (.ref it) (.ref D) Y.env) R s:=by
 obtain⟨W,⟨m0,w0⟩,turn⟩:=q
 have stat:∀ {H':Hp} {o:Obj},(∀ b∈fp,H' b=none)→∀ b∈fp,fX Y ((D,o)::pl) H' b:=fun hn b hb=>by
  obtain⟨⟨_,f1,f2,f3,f4,f5⟩,f6⟩:=f b hb
  refine⟨hn b hb,f1,f2,f3,f4,fun p hp=>?_⟩
  rcases List.mem_append.mp hp with hp | hp
  ·exact f5 p (List.mem_append_left _ hp)
  ·rcases List.mem_cons.mp hp with e | hp
   ·subst e;exact f6
   ·exact f5 p (List.mem_append_right _ hp)
 refine codeAny_loop rfl (fun n s'=>∃ i ys' σ' H',Acc Y D pl ys' σ' H' s'∧tn i s'.heap∧(∀ b∈fp,H' b=none)∧W i n ys' σ' H') (fun n s3 hI=>?_) m0 ⟨0,ys,σ,H,a,st,fun b hb=>(f b hb).1.1,w0⟩
 show wpAny _ _ ((compTurn (.ListComp elt gens sc pos) d (.ref it) (.ref D) Y.env).onRaise (fun x=>do noteFrame x Y.env;theTreesLotGoes x)) _ _ s3
 refine wpAny_noted ?_
 rw[hturn]
 obtain⟨i,ys3,σ3,H3,a3,st3,fr3,w3⟩:=hI
 obtain⟨us3,I3,rv3⟩:=a3.us
 have noE:∀ {M:Model} {A:Around} {α:Type} {t:Sem α} {Q:α→Shared→Prop} {E:Value→Shared→Prop} {s:Shared},wpAny M A t Q (fun _ _=>False) s→wpAny M A t Q E s:=fun h=>wpAny_mono h (fun _ _ x=>x) fun _ _ x=>x.elim
 refine wpAny_bind (wpAny_standAt (wpAny_bind ?_))
 rcases turn i n ys3 σ3 H3 w3 with ⟨stop,qn⟩ | ⟨go,step⟩
 ·refine noE (thn (T.done Y rfl rfl rfl hc i _ s3 σ3 H3 _ I3 (stat fr3) st3 stop) fun r s4 ⟨hr,I4⟩=>?_)
  subst hr
  exact wpAny_pure (hR ys3 σ3 H3 s4 (a3.pins I4 rv3) qn)
 ·refine noE (thn (T.item Y rfl rfl rfl hc i _ s3 σ3 H3 _ I3 (stat fr3) st3 go) fun r s4 ⟨u,hr,h4⟩=>?_)
  subst hr
  refine wpAny_bind (noE (thn h4 fun _ s5 ⟨x,H5,I5,r5,y5,st5,fr5⟩=>?_))
  have I5':=I5.pinned (stat fr5) (T.obj _ _ st5)
  have hg':=hg _ s5 σ3 H5 x u _ I5' r5 (step x H5 y5)
  rw[hx] at hg'
  refine wpAny_bind (noE (thn hg' fun _ s6 ⟨σ6,H6,I6,q6⟩=>?_))
  have a6:Acc Y D (pl++qx fp s5.heap) ys3 σ6 H6 s6:=⟨⟨us3,I6,rv3⟩,a.exD,fun p hp=>by
   rcases List.mem_append.mp hp with hp | hp
   ·exact a.nd p (List.mem_append_left _ hp)
   ·rcases List.mem_append.mp hp with hp | hp
    ·exact a.nd p (List.mem_append_right _ hp)
    ·exact fun z=>(f p.1 (sC hp).1).2 z.symm⟩
  refine noE (hm _ _ s6 ys3 σ6 H6 _ _ a6 q6 fun ys7 σ7 H7 s7 a7 ⟨m',hlt,w7⟩=>wpAny_pure ⟨rfl,m',hlt,i + 1,ys7,σ7,H7,?_,?_,?_,w7⟩)
  ·obtain⟨us7,I7,rv7⟩:=a7.us
   exact⟨⟨us7,I7.jx fun p hp=>I7.pin p (List.mem_append_right _ (by
    rcases List.mem_cons.mp hp with e | hp
    ·subst e;exact List.mem_cons_self
    ·exact List.mem_cons_of_mem _ (List.mem_append_left _ hp))),rv7⟩,a.exD,a.nd⟩
  ·obtain⟨us7,I7,rv7⟩:=a7.us
   exact T.keep _ _ _ st5 fun b hb o e=>(I7.pin (b,o) (List.mem_append_right _ (List.mem_cons_of_mem _ (List.mem_append_right _ (fK hb e))))).1
  ·intro b hb
   obtain⟨us7,I7,rv7⟩:=a7.us
   obtain⟨o,e,d⟩:=T.obj _ _ st5 b hb
   exact(I7.pin (b,o) (List.mem_append_right _ (List.mem_cons_of_mem _ (List.mem_append_right _ (fK hb e))))).2.1
end
end L2
namespace L2
open PySem PySem.Spec PyProof.Rows
section
variable {prog:Program} {w:World} {A:Around} {R:Result→Shared→Prop} {s:Shared}
theorem uF {prog : Program} {w : World} {A : Around} {R : Result → Shared → Prop} {s : Shared} {elt : Expr} {gens : List Comprehension} {sc : Scope} {pos : Pos} {d : Nat} {it acc : Value} {env : Env} {tg iter : Expr} {ifs : List Expr} (hcl : gens[d]? = some ⟨tg, iter, ifs, 0⟩)
    (same : codeAny (model prog w) A (.compLoop (.ListComp elt gens sc pos) d it acc env) R s)
    (anew : wpAny (model prog w) A (pyIter it) (fun it2 s2 => codeAny (model prog w) A (.compLoop (.ListComp elt gens sc pos) d it2 acc env) R s2) (notedBy (model prog w) A env fun x s2 => R (.error x) s2) s) :
    codeAny (model prog w) A (.compStart (.ListComp elt gens sc pos) d it acc env) R s := by
  have cl : (clausesOf (.ListComp elt gens sc pos))[d]? = some ⟨tg, iter, ifs, 0⟩ := hcl
  apply codeAny_of_tree
  apply wpAny_notedAt (pos := theWindowsPlace) (m := compStart (.ListComp elt gens sc pos) d it acc env)
  simp only [compStart, cl]
  apply wpAny_bind
  apply wpAny_askSetting
  apply wpAny_ite
  split
  · exact wpAny_pure ⟨rfl, same⟩
  · apply wpAny_bind
    apply wpAny_rule
    apply wpAny_bind
    apply wpAny_standAt
    exact wpAny_bind (wpAny_mono anew (fun _ _ q => wpAny_pure ⟨rfl, q⟩) fun _ _ q => q)
end
section
variable {Y:Cx} {D:Addr}
def JJ (wi:TI) (g:TG) (t:TB):TB:=fun ys σ H Q=>wi σ H fun J H1=>wt J g t ys σ H1 Q
abbrev JB (elt:Expr) (gens:List Comprehension) (sc:Scope) (pos:Pos) (d:Nat) (iter:Expr) (D:Addr) (env:Env) (k:Sem Fin):Sem Fin:=
 eval iter env >>= fun x=>standAt iter.pos >>= fun _=>foldedSetIterable iter env x >>= fun x=>holding [x] (pyIter x) >>= fun itv=>runOwn (.compStart (.ListComp elt gens sc pos) d itv (.ref D) env) env >>= fun _=>k
end
end L2
namespace L2
open PySem PySem.Spec PyProof.Rows
section
variable {X:Cx}
theorem vZ {elt iter tg:Expr} {gens:List Comprehension} {ifs:List Expr} {sc:Scope} {pos p0:Pos} {Nc:List Str} {fr:List (Option Nat)} {g:TG} {m:Addr→Env→Sem Fin→Sem Fin} {t:TB} (hcl:gens[0]?=some ⟨tg,iter,ifs,0⟩) (B:Blk X.N X.env.scope sc Nc fr) (hc:X.calm=true)
  (hg:∀ s₀ H₀ C ex pn,PG (bX X sc Nc s₀ H₀ C ex pn) tg g) (hm:∀ s₀ H₀ C ex pn D,PB (bX X sc Nc s₀ H₀ C ex pn) D (m D (bX X sc Nc s₀ H₀ C ex pn).env) t)
  (hturn:∀ (it D:Addr) (env:Env),compTurn (.ListComp elt gens sc pos) 0 (.ref it) (.ref D) env=(standAt p0 >>= fun _=>pyNext (.ref it) >>= fun r=>match r with
   | none=>pure (.done .next)
   | some v=>letOwnedTupleGo tg (.ref it) v >>= fun _=>assign tg env v >>= fun _=>m D env (again (.compLoop (.ListComp elt gens sc pos) 0 (.ref it) (.ref D) env))))
  {pins:List (Addr×Obj)} {σ:St} {s2:Shared} {H2:Hp} {it:Addr} {fp:List Addr} {tn:Nat→Heap→Prop} {J:It} (I2:Inv X pins σ H2 s2) (T:Turn X.prog X.w X.K tg J fp it tn) (st2:tn 0 s2.heap) (f2:∀ b∈fp,fX X pins H2 b)
  {Q:VK} (cw:wt J g t [] (kU fr σ) H2 fun ys _ H'=>ys.length < sizeLine∧∀ l,H' l=none→Q (.ref l) (upd H' l (.lst ys))) {RR:Value→Addr→Result→Shared→Prop} {E:Value→Shared→Prop}
  (hRR:∀ D C s' H',Inv X pins σ H' s'→(∃ m,s'.heap.Ns C m)→fX X pins H' C→Q (.ref D) H'→RR (.ref D) C (.ok .next) s') :
  wpAny (model X.prog X.w) X.A (newList []) (fun acc s₃=>wpAny (model X.prog X.w) X.A (newFunctionEnv sc X.env.globals (takes X.env.cells sc.names []) [] X.env.qual none .none (some X.env)) (fun cenv s₄=>
   codeAny (model X.prog X.w) X.A (.compStart (.ListComp elt gens sc pos) 0 (.ref it) acc { cenv with scope:=relabel sc X.env }) (RR acc cenv.locals) s₄) E s₃) E s2:=by
 refine wpAny_newObj_type (wpAny_newFunctionEnv B.nocell (by intro y hy;simp at hy) (fun h₁ hns₁ hsb₁=>?_) B.kind)
 dsimp only at hns₁ hsb₁ ⊢
 generalize hH2:s2.heap.push { cls:=.type "list",dict:=none,data:=.seq ([]:List Value).toArray }=hp at hns₁ hsb₁ ⊢
 have hCs:hp.objs.size=s2.heap.objs.size + 1:=by rw[← hH2,Heap.size_push]
 generalize hCe:hp.objs.size=C at hns₁ hsb₁ ⊢
 generalize hDe:s2.heap.objs.size=D at hCs ⊢
 have hDC:D≠C:=by rw[← hCe,hCs];exact Nat.ne_of_lt (Nat.lt_succ_self _)
 have up:∀ b o,s2.heap.get? b=some o→hp.get? b=some o:=fun b o e=>by rw[← hH2];exact Heap.get?_push_of_some _ e
 have hDp:hp.get? D=some (cm [] 0):=by rw[← hH2,← hDe];exact Heap.get?_push_size _ rfl
 have I3:Inv X pins σ H2 { s2 with heap:=hp }:=I2.kept (t':=s2.toks) up
 have hD0:H2 D=none:=I2.hok.fresh (by rw[hDe];exact Nat.le_refl _)
 have fD:fX X pins H2 D:=I2.p4 (by rw[hDe];exact Nat.le_refl _) hD0
 have fpo:∀ b∈fp,∃ o,s2.heap.get? b=some o∧∀ v,o.data≠.cell v:=T.obj 0 _ st2
 have fplt:∀ b∈fp,b < D:=fun b hb=>by obtain⟨o,e,_⟩:=fpo b hb;rw[← hDe];exact Heap.lt_size e
 have hDfp:D∉fp:=fun hb=>Nat.lt_irrefl _ (fplt D hb)
 have hCfp:C∉fp:=fun hb=>by have:=fplt C hb;rw[← hCe,hCs] at this;exact absurd (Nat.lt_of_succ_lt this) (Nat.lt_irrefl _)
 have nobase:∀ b,(b∈X.ex∨X.s₀.heap.objs.size≤b)→∀ o,X.base.get? b≠some o:=fun b h o e=>by
  rcases h with h | h
  ·exact I2.ok.noex b o e h
  ·exact absurd (Nat.lt_of_lt_of_le (Heap.lt_size e) (Nat.le_trans I2.ok.bsz h)) (Nat.lt_irrefl _)
 have hex:∀ b∈D::fp,b < hp.objs.size∧b∉X.fs∧b≠X.env.locals∧(∀ x c,X.env.cells.lookup x=some c→c≠b)∧∀ o,X.base.get? b≠some o:=fun b hb=>by
  have fb:fX X pins H2 b:=by
   rcases List.mem_cons.mp hb with e | hb
   ·rw[e];exact fD
   ·exact f2 b hb
  refine⟨?_,fb.2.2.1,fb.2.1,fb.2.2.2.2.1,nobase b fb.2.2.2.1⟩
  rcases List.mem_cons.mp hb with e | hb
  ·rw[e,hCs];exact Nat.lt_succ_self _
  ·rw[hCs];exact Nat.lt_succ_of_lt (fplt b hb)
 have hCle:hp.objs.size≤C:=by rw[hCe];exact Nat.le_refl _
 have ok:(bX X sc Nc { s2 with heap:=hp } H2 C (D::fp) (X.pn++pins)).Ok:=BY B I3 hCle hex
 have old:∀ b u,hp.get? b=some u→h₁.get? b=some u:=fun b u e=>by
  have hb:b≠C:=by rw[← hCe];exact Nat.ne_of_lt (Heap.lt_size e)
  exact(hsb₁.2 b hb).trans (Heap.get?_push_of_some _ e)
 have J0:Inv (bX X sc Nc { s2 with heap:=hp } H2 C (D::fp) (X.pn++pins)) [(D,cm [] 0)] (kU fr σ) H2 { s2 with heap:=h₁,toks:=s2.toks + ([]:List (Str×Value)).length }:=
  yF B ok I3 hCle rfl rfl old hns₁ hDp hD0 fD.2.1 fD.2.2.1 (fun v z=>by cases z)
 have a0:Acc (bX X sc Nc { s2 with heap:=hp } H2 C (D::fp) (X.pn++pins)) D [] [] (kU fr σ) H2 { s2 with heap:=h₁,toks:=s2.toks + ([]:List (Str×Value)).length }:=
  ⟨⟨[],J0,.nil⟩,List.mem_cons_self,fun p hp'=>fD.2.2.2.2.2 p (by simpa using hp')⟩
 have fpY:∀ b∈fp,fX (bX X sc Nc { s2 with heap:=hp } H2 C (D::fp) (X.pn++pins)) [] H2 b∧D≠b:=fun b hb=>
  ⟨⟨(f2 b hb).1,fun e=>hCfp (by have e':b=C:=e;rw[← e'];exact hb),ok.exfs b (List.mem_cons_of_mem _ hb),.inl (List.mem_cons_of_mem _ hb),(ok.exf b (List.mem_cons_of_mem _ hb)).2,fun p hp'=>(f2 b hb).2.2.2.2.2 p (by simpa using hp')⟩,fun z=>hDfp (by rw[z];exact hb)⟩
 have loop:codeAny (model X.prog X.w) X.A (.compLoop (.ListComp elt gens sc pos) 0 (.ref it) (.ref D) (compEnvC sc (takes X.env.cells sc.names []) C X.env)) (RR (.ref D) C) { s2 with heap:=h₁,toks:=s2.toks + ([]:List (Str×Value)).length }:=by
  refine Hj (Y:=bX X sc Nc { s2 with heap:=hp } H2 C (D::fp) (X.pn++pins)) (D:=D) rfl hc T (hg _ _ _ _ _) (hm _ _ _ _ _ D) (hturn it D _) a0 (T.keep _ _ _ st2 (fun b _ o e=>old b o (up b o e))) fpY cw fun ys σ4 H3 s4 a4 hq=>?_
  obtain⟨us,I4,rv⟩:=a4.us
  obtain⟨hsz,qn⟩:=hq
  obtain⟨pD,pH,_,_,_⟩:=I4.pin (D,cm us us.length) (List.mem_append_right _ List.mem_cons_self)
  obtain⟨mC',hnC,_⟩:=I4.loc
  have un:Un (frs X.stack) fp H2 (upd H3 D (.lst ys)) s2.heap s4.heap:=by
   have u0:Un (frs X.stack) (D::fp) H2 H3 hp s4.heap:=I4.base
   have neD:∀ {b:Addr} {o:Obj},s2.heap.get? b=some o→b≠D:=fun e=>by rw[← hDe];exact Nat.ne_of_lt (Heap.lt_size e)
   have nx:∀ {b:Addr} {o:Obj},s2.heap.get? b=some o→b∉fp→b∉D::fp:=fun e h1 h2=>by
    rcases List.mem_cons.mp h2 with z | z
    ·exact neD e z
    ·exact h1 z
   have neT:∀ {b:Addr} {o:HO},H2 b=some o→b≠D:=fun e z=>by rw[z,hD0] at e;cases e
   exact⟨fun b o e n hb hx=>u0.keep b o (up b o e) n hb (nx e hx),fun b o e n hb hx=>u0.slot b o (up b o e) n hb (nx e hx),fun b o e n hx=>by rw[aj (neD e)];exact u0.free b o (up b o e) n (nx e hx),
    fun b o e hx=>u0.there b o (up b o e) (nx e hx),fun b xs e=>by rw[aj (neT e)];exact u0.tups b xs e,fun b o xs e=>by rw[aj (neT e)];exact u0.frzs b o xs e,fun b ps e=>by rw[aj (neT e)];exact u0.tbls b ps e⟩
  have hok:HOk X.prog X.w (upd H3 D (.lst ys)) s4.heap:=fun b u e=>by
   by_cases hb:b=D
   ·subst hb
    rw[aC] at e
    cases e
    exact⟨Nat.le_of_lt hsz,us,us.length,rv,pD⟩
   ·rw[aj hb] at e
    refine(I4.hok b u e).rL (fun c v _ q=>q) (fun c q=>?_) fun c xs q=>?_
    ·rw[aj (fun z=>by rw[z] at q;rw[show H3 D=none from pH] at q;cases q)];exact q
    ·rw[aj (fun z=>by rw[z] at q;rw[show H3 D=none from pH] at q;cases q)];exact q
  have I5:Inv X pins σ (upd H3 D (.lst ys)) s4:=I2.Eu I4.os un hok I4.bare fun b hb=>⟨(f2 b hb).2.2.2.1,(f2 b hb).2.1,(f2 b hb).2.2.2.2.1,(f2 b hb).2.2.2.2.2⟩
  refine hRR D C s4 _ I5 ⟨mC',hnC⟩ ?_ (qn D pH)
  have hC2:s2.heap.objs.size≤C:=by rw[hDe,← hCe,hCs];exact Nat.le_succ _
  refine I2.p4 hC2 ?_
  rw[aj (Ne.symm hDC)]
  exact I4.free
 exact uF hcl loop (wpAny_mono (T.self X.A 0 _ _ (fun _ _=>False) (T.keep _ _ _ st2 (fun b _ o e=>old b o (up b o e))) loop) (fun _ _ h=>h) fun _ _ h=>h.elim)
def wJ (fr:List (Option Nat)) (wi:TI) (g:TG) (t:TB):TE:=fun σ H Q=>wi σ H fun J H1=>wt J g t [] (kU fr σ) H1 fun ys _ H'=>ys.length < sizeLine∧∀ l,H' l=none→Q (.ref l) (upd H' l (.lst ys))
theorem AA {elt iter tg:Expr} {ifs:List Expr} {rest:List Comprehension} {sc:Scope} {pos p0:Pos} {Nc:List Str} {fr:List (Option Nat)} {wi:TI} {g:TG} {m:Addr→Env→Sem Fin→Sem Fin} {t:TB} (hc:X.calm=true) (hi:PI X tg iter wi) (B:Blk X.N X.env.scope sc Nc fr)
  (hg:∀ s₀ H₀ C ex pn,PG (bX X sc Nc s₀ H₀ C ex pn) tg g) (hm:∀ s₀ H₀ C ex pn D,PB (bX X sc Nc s₀ H₀ C ex pn) D (m D (bX X sc Nc s₀ H₀ C ex pn).env) t)
  (hturn:∀ (it D:Addr) (env:Env),compTurn (.ListComp elt (⟨tg,iter,ifs,0⟩::rest) sc pos) 0 (.ref it) (.ref D) env=(standAt p0 >>= fun _=>pyNext (.ref it) >>= fun r=>match r with
   | none=>pure (.done .next)
   | some v=>letOwnedTupleGo tg (.ref it) v >>= fun _=>assign tg env v >>= fun _=>m D env (again (.compLoop (.ListComp elt (⟨tg,iter,ifs,0⟩::rest) sc pos) 0 (.ref it) (.ref D) env)))) (hs:∀ x,foldedSetIterable iter X.env x=pure x:=by intro _;rfl) :
  PE X (.ListComp elt (⟨tg,iter,ifs,0⟩::rest) sc pos) (wJ fr wi g t):=by
 intro pins s σ H Q I h
 rw[eval_ListComp]
 refine wpAny_comprehension_free (use:=none) rfl hs (uK B I) B.kind B.locs (thn (hi pins s σ H _ I h) fun v s1 h1=>thn h1 fun itv s2 h2=>?_)
 obtain⟨it,fp,tn,J,H2,e,I2,T,st2,f2,cw⟩:=h2
 subst e
 refine vZ (RR:=fun acc C=>compPost (model X.prog X.w) X.A X.xe none (EP X pins σ Q) acc C) rfl B hc hg hm hturn I2 T st2 f2 cw fun D C s' H' I' hn fC q=>?_
 obtain⟨m,hn⟩:=hn
 exact⟨m,hn,fun h' sb=>⟨.ref D,H',I'.turned (t':=s'.toks) (fun b o hb e=>(sb.2 b hb).trans e) fC.1 fC.2.1 fC.2.2.2.1 fC.2.2.2.2.1 fC.2.2.2.2.2,rfl,q⟩⟩
end
end L2
namespace L3
open PySem L2 PySem.Spec
abbrev mF:=List D→G→(List D→G→Prop)→Prop
def PoL (K:PySem.W.Frag) (B:Bs) (F:Hp) (Q:List D→G→Prop):List V→L2.St→Hp→Prop:=fun ys' σ' H'=>∃ F' Γ' ds',aP F F'∧En K B F' σ' H' Γ'∧ax K F' ds' ys'∧Q ds' Γ'
def sZ (K:PySem.W.Frag) (t:TB) (b3:mF):Prop:=∀ (B:Bs) (F:Hp) (σ:L2.St) (H:Hp) (Γ:G) (ys:List V) (ds:List D) (Q:List D→G→Prop) (QQ:List V→L2.St→Hp→Prop),En K B F σ H Γ→ax K F ds ys→b3 ds Γ Q→(∀ ys' σ' H',PoL K B F Q ys' σ' H'→QQ ys' σ' H')→t ys σ H QQ
structure Gw (K:PySem.W.Frag) (Y:Cx) (D:Addr) (m:Sem Fin→Sem Fin) (t:TB) (b3:mF):Prop where
 pe:PB Y D m t
 rf:sZ K t b3
def sN (e3:TE3) (ys:List D) (Γ:G) (Q:List D→G→Prop):Prop:=ys.length < sizeLine∧e3 Γ fun r Γ1=>Q (ys++[r.d]) Γ1
def zF (c3:TT3) (b3:mF) (ys:List D) (Γ:G) (Q:List D→G→Prop):Prop:=c3 Γ fun b Γ1=>match b with
 | true=>b3 ys Γ1 Q
 | false=>Q ys Γ1
def yk (xs:List D) (g3:TG3) (b3:mF) (ys:List D) (Γ:G) (Q:List D→G→Prop):Prop:=∃ Iv:Nat→List D→G→Prop,Iv 0 ys Γ∧(∀ k d ys Γ,xs[k]?=some d→Iv k ys Γ→g3 d Γ fun Γ'=>b3 ys Γ' (Iv (k + 1)))∧∀ ys Γ,Iv xs.length ys Γ→Q ys Γ
def Ag (i3:TI3) (g3:TG3) (b3:mF) (ys:List D) (Γ:G) (Q:List D→G→Prop):Prop:=i3 Γ fun xs Γ1=>yk xs g3 b3 ys Γ1 Q
def uH (fr:List (Option Nat)) (i3:TI3) (g3:TG3) (b3:mF) (Γ:G) (Q:RV→G→Prop):Prop:=i3 Γ fun xs Γ1=>yk xs g3 b3 [] (gr Γ1 (ic fr)) fun ys Γc=>ys.length < sizeLine∧Q (.fr (.lst ys)) (cL fr Γ1 Γc)
section
variable {K:PySem.W.Frag} {X Y:Cx} {Da:Addr} {pos p0:Pos}
theorem vn {te:TE} {e3:TE3} (h:Ref K te e3):sZ K (yI te) (sN e3):=by
 intro B F σ H Γ ys ds Q QQ e r ⟨hz,q⟩ k
 refine⟨by rw[r.length];exact hz,h B F σ H Γ _ _ e q fun v H' ⟨F',Γ',rv,s,e',rr,q'⟩=>k _ _ _ ?_⟩
 obtain⟨F2,s2,e2,r2⟩:=e'.frozen rr
 exact⟨F2,Γ',ds++[rv.d],s.trans s2,e2,ax.append (ys:=[rv.d]) (r.mono (s.trans s2)) ⟨v,[],rfl,r2,rfl⟩,q'⟩
theorem x8 {tc:TT} {c3:TT3} {t:TB} {b3:mF} (hc:p8 K tc c3) (h:sZ K t b3):sZ K (bIf tc t) (zF c3 b3):=by
 intro B F σ H Γ ys ds Q QQ e r q k
 refine hc B F σ H Γ _ _ e q fun b H' ⟨F',Γ',s,e',q'⟩=>?_
 cases b with
 | true=>exact zr (h B F' σ H' Γ' ys ds Q QQ e' (r.mono s) q' fun ys' σ' H2 ⟨F2,Γ2,d2,s2,rest⟩=>k _ _ _ ⟨F2,Γ2,d2,s.trans s2,rest⟩)
 | false=>exact zt (k _ _ _ ⟨F',Γ',ds,s,e',r.mono s,q'⟩)
theorem An {J:It} {xs:List D} {g:TG} {g3:TG3} {t:TB} {b3:mF} (hg:DS K g g3) (h:sZ K t b3) {B:Bs} {F:Hp} {σ:L2.St} {H:Hp} {Γ:G} {ys:List V} {ds:List D} {Q:List D→G→Prop} {QQ:List V→L2.St→Hp→Prop}
  (R:ItR K F J xs) (e:En K B F σ H Γ) (r:ax K F ds ys) (q:yk xs g3 b3 ds Γ Q) (k:∀ ys' σ' H',PoL K B F Q ys' σ' H'→QQ ys' σ' H'):wt J g t ys σ H QQ:=by
 obtain⟨Iv,i0,it,ie⟩:=q
 refine⟨fun i m ys σ H=>m=xs.length - i∧i≤xs.length∧∃ F' Γ' ds,aP F F'∧En K B F' σ H Γ'∧ax K F' ds ys∧Iv i ds Γ',⟨_,rfl,Nat.zero_le _,F,Γ,ds,aP.refl F,e,r,i0⟩,?_⟩
 rintro i m ys2 σ2 H2 ⟨rfl,hi,F2,Γ2,ds2,s2,e2,r2,iv⟩
 by_cases lt:i < xs.length
 ·refine .inr ⟨R.go i H2 (s2.trans e2.sub) lt,fun x H3 y=>?_⟩
  have hd:xs[i]?=some xs[i]:=List.getElem?_eq_getElem lt
  obtain⟨F3,s3,e3,r3⟩:=R.turn s2 e2 hd y
  refine hg B F3 σ2 H3 Γ2 x _ _ _ e3 r3 (it i _ ds2 Γ2 hd iv) fun σ' Γ' e4 q4=>?_
  exact h B F3 σ' H3 Γ' ys2 ds2 _ _ e4 (r2.mono s3) q4 fun ys' σ'' H4 ⟨F4,Γ4,d4,s4,e5,r5,iv5⟩=>⟨xs.length - (i + 1),by omega,rfl,lt,F4,Γ4,d4,(s2.trans s3).trans s4,e5,r5,iv5⟩
 ·have z:i=xs.length:=by omega
  subst z
  exact .inl ⟨R.stop _ H2 (s2.trans e2.sub) rfl,k _ _ _ ⟨F2,Γ2,ds2,s2,e2,r2,ie ds2 Γ2 iv⟩⟩
theorem y7 {fr:List (Option Nat)} {wi:TI} {i3:TI3} {g:TG} {g3:TG3} {t:TB} {b3:mF} (nd:(fr.filterMap id).Nodup) (hi:Gv K wi i3) (hg:DS K g g3) (h:sZ K t b3):Ref K (wJ fr wi g t) (uH fr i3 g3 b3):=by
 intro B F σ H Γ Q QQ e q k
 refine hi B F σ H Γ _ _ e q fun J H1 F1 Γ1 xs s1 e1 R q1=>?_
 refine An hg h R (e1.blk nd) (ds:=[]) rfl q1 fun ys σ' H2 ⟨F2,Γ2,d2,s2,e2,r2,hz,q2⟩=>⟨by rw[r2.length];exact hz,fun l hl'=>k _ _ ?_⟩
 have eo:En K B F2 σ H2 (cL fr Γ1 Γ2):=e1.back (ls:=fr) e2 (by have:=qA (Γ:=Γ1) (σ:=σ) (bs:=ic fr);rw[vQ] at this;exact this)
 exact Po.mono (s1.trans s2) (jw eo hl' r2 q2)
theorem DE {elt:Expr} {te:TE} {e3:TE3} (hx:Y.xe=fun _ _=>False) (he:P3 K Y elt te e3):Gw K Y Da (BE elt Da Y.env) (yI te) (sN e3):=⟨CU hx he.pe,vn he.rf⟩
theorem HZ {c:Expr} {tc:TT} {c3:TT3} {m:Sem Fin→Sem Fin} {t:TB} {b3:mF} (hx:Y.xe=fun _ _=>False) (hc:P3T K Y c tc c3) (hm:Gw K Y Da m t b3):Gw K Y Da (ifK c Y.env m) (bIf tc t) (zF c3 b3):=⟨Ha hx hc.pe hm.pe,x8 hc.rf hm.rf⟩
theorem vy {elt iter tg c:Expr} {sc:Scope} {Nc:List Str} {fr:List (Option Nat)} {wi:TI} {i3:TI3} {g:TG} {g3:TG3} {te:TE} {e3:TE3} {tc:TT} {c3:TT3} (hc:X.calm=true) (hi:P3I K X tg iter wi i3) (Bk:Blk X.N X.env.scope sc Nc fr)
  (hg:∀ s₀ H₀ C ex pn,P3G K (bX X sc Nc s₀ H₀ C ex pn) tg g g3) (ht:∀ s₀ H₀ C ex pn,P3T K (bX X sc Nc s₀ H₀ C ex pn) c tc c3) (he:∀ s₀ H₀ C ex pn,P3 K (bX X sc Nc s₀ H₀ C ex pn) elt te e3) (nd:(fr.filterMap id).Nodup:=by decide) (hs:∀ x,foldedSetIterable iter X.env x=pure x:=by intro _;rfl) :
  P3 K X (.ListComp elt [⟨tg,iter,[c],0⟩] sc pos) (wJ fr wi g (bIf tc (yI te))) (uH fr i3 g3 (zF c3 (sN e3))):=
 ⟨AA (m:=fun D env=>ifK c env (BE elt D env)) hc hi.pe Bk (fun a b c d e=>(hg a b c d e).pe) (fun a b c d e D=>(HZ rfl (ht a b c d e) (DE rfl (he a b c d e))).pe) (fun _ _ _=>rfl) hs,y7 nd hi.rf (hg X.s₀ X.H₀ 0 [] []).rf (x8 (ht X.s₀ X.H₀ 0 [] []).rf (vn (he X.s₀ X.H₀ 0 [] []).rf))⟩
end
end L3
namespace L3
open PySem L2 PySem.Spec
theorem BA {n:Nat} {a b:Int}:eqN n (.int a) (.int b)=some (a == b):=by cases n <;> rfl
theorem Bw {n:Nat} {a b:Str}:eqN n (.str a) (.str b)=some (a == b):=by cases n <;> rfl
theorem BB {n:Nat} {a b:Bool}:eqN n (.bl a) (.bl b)=some (a == b):=by cases n <;> rfl
def fo (s:Option D):Option Sl:=s.map Sl.fz
theorem xE {s:Option Sl} {Γ:G} {i:Nat}:cK (s::Γ) (i + 1)=cK Γ i:=rfl
theorem xG {Γ:G}:cK (none::Γ) 0=True:=rfl
theorem xB {d:D} {Γ:G}:cK (some (.fz d)::Γ) 0=True:=rfl
theorem xC {d:D} {Γ:G}:cK (some (.ow d)::Γ) 0=True:=rfl
theorem xF {s:Option D} {Γ:G}:cK (fo s::Γ) 0=True:=by cases s <;> rfl
end L3
universe u
namespace L3
open PySem L2 PySem.Spec
structure Tag {α:Sort u} (q:α):Type where
def m1 (o:Option D) (k:D→Prop) (_:Tag k):Prop:=match o with
 | some d=>k d
 | none=>False
theorem uq {d:D} {k:D→Prop} {t:Tag k}:m1 (some d) k t=k d:=rfl
theorem gH {o:Option D} {k:D→Prop} {t:Tag k}:m1 o k t↔∃ d,o=some d∧k d:=by
 cases o with
 | none=>exact⟨fun h=>h.elim,fun ⟨_,h,_⟩=>by cases h⟩
 | some d=>exact⟨fun h=>⟨d,rfl,h⟩,fun ⟨_,h,q⟩=>by cases h;exact q⟩
def hold (S:S3) (Γ:G) (Q:RV→G→Prop) (_:Tag Q):Prop:=S Γ Q
def yA (fr:List (Option Nat)) (i3:TI3) (g3:TG3) (e3:TE3) (Γ:G) (Q:RV→G→Prop) (_:Tag (fr,i3,g3,e3)) (_:Tag Q):Prop:=pj fr i3 g3 e3 Γ Q
def F7 (i3:TI3) (g3:TG3) (b3:TS3) (D:E3) (Γ:G) (_:Tag (i3,g3,b3)) (_:Tag D):Prop:=F8 i3 g3 b3 D Γ
def BJ (fr:List (Option Nat)) (i3:TI3) (g3:TG3) (b3:mF) (Γ:G) (Q:RV→G→Prop) (_:Tag (fr,i3,g3,b3)) (_:Tag Q):Prop:=uH fr i3 g3 b3 Γ Q
theorem qU {fr:List (Option Nat)} {i3:TI3} {g3:TG3} {b3:mF} {Γ:G} {Q:RV→G→Prop}:uH fr i3 g3 b3 Γ Q=BJ fr i3 g3 b3 Γ Q ⟨⟩ ⟨⟩:=rfl
theorem uI {fr:List (Option Nat)} {i3:TI3} {g3:TG3} {e3:TE3} {Γ:G} {Q:RV→G→Prop}:pj fr i3 g3 e3 Γ Q=yA fr i3 g3 e3 Γ Q ⟨⟩ ⟨⟩:=rfl
theorem xI {i3:TI3} {g3:TG3} {b3:TS3} {D:E3} {Γ:G}:F8 i3 g3 b3 D Γ=F7 i3 g3 b3 D Γ ⟨⟩ ⟨⟩:=rfl
section
variable {op:D→D→TE3} {a3 b3:TB3} {Γ:G} {Q:RV→G→Prop}
theorem wL:pO op a3 b3 Γ Q=(a3 Γ fun x Γ1=>b3 Γ1 fun y Γ2=>m1 (x.at Γ2) (fun dx=>m1 (y.at Γ2) (fun dy=>op dx dy Γ2 Q) ⟨⟩) ⟨⟩):=by
 unfold pO
 congr;funext x Γ1;congr;funext y Γ2
 refine propext ⟨fun ⟨dx,dy,h1,h2,h3⟩=>by rw[h1,h2];exact h3,fun h=>?_⟩
 obtain⟨dx,h1,h⟩:=gH.mp h
 obtain⟨dy,h2,h⟩:=gH.mp h
 exact⟨dx,dy,h1,h2,h⟩
theorem wK {op:D→TE3}:z0 op a3 Γ Q=(a3 Γ fun x Γ1=>m1 (x.at Γ1) (fun dx=>op dx Γ1 Q) ⟨⟩):=by
 unfold z0
 congr;funext x Γ1
 exact propext gH.symm
theorem A9 {xs:List D} {i:Int}:ix3 (.lst xs) (.int i) Γ Q=m1 (atI xs i) (fun d=>Q (.fz d) Γ) ⟨⟩:=propext gH.symm
theorem A8 {xs:List D} {i:Int}:ix3 (.tup xs) (.int i) Γ Q=m1 (atI xs i) (fun d=>Q (.fz d) Γ) ⟨⟩:=propext gH.symm
def mL (o:Option (List D)) (k:List D→Prop) (_:Tag k):Prop:=match o with
 | some d=>k d
 | none=>False
theorem um {d:List D} {k:List D→Prop} {t:Tag k}:mL (some d) k t=k d:=rfl
theorem uO {c3:List D→TE3} {t3:jm}:wa c3 t3 Γ Q=(t3 Γ fun bs Γ1=>mL (ats Γ1 bs) (fun ds=>c3 ds Γ1 Q) ⟨⟩):=by
 unfold wa
 congr;funext bs Γ1
 refine propext ⟨fun ⟨ds,h,q⟩=>by rw[h];exact q,fun h=>?_⟩
 cases e:ats Γ1 bs with
 | none=>rw[e] at h;exact h.elim
 | some ds=>rw[e] at h;exact⟨ds,rfl,h⟩
def mN (o:Option Nat) (k:Nat→Prop) (_:Tag k):Prop:=match o with
 | some d=>k d
 | none=>False
theorem uk {d:Nat} {k:Nat→Prop} {t:Tag k}:mN (some d) k t=k d:=rfl
def mI (o:Option D) (k:Int→Prop) (_:Tag k):Prop:=match o with
 | some (.int d)=>k d
 | _=>False
theorem uo {d:Int} {k:Int→Prop} {t:Tag k}:mI (some (.int d)) k t=k d:=rfl
theorem tJ {i:Nat} {k3:TB3} {e3:TE3} {D:E3}:xZ i k3 e3 D Γ=(e3 Γ fun r Γ1=>(∃ xs,cO Γ1 i=some xs)∧k3 Γ1 fun b Γ2=>mL (cO Γ2 i) (fun xs=>mI (b.at Γ2) (fun k=>mN (ixN xs.length k) (fun j=>D.nx (putD Γ2 i (.lst (xs.set j r.d)))) ⟨⟩) ⟨⟩) ⟨⟩):=by
 unfold xZ
 congr;funext r Γ1;congr;funext b Γ2
 refine propext ⟨fun ⟨xs,k,j,h1,h2,h3,q⟩=>?_,fun h=>?_⟩
 ·rw[h1,h2];show mN (ixN xs.length k) _ ⟨⟩;rw[h3];exact q
 ·cases e:cO Γ2 i with
  | none=>rw[e] at h;exact h.elim
  | some xs=>
   rw[e] at h
   replace h:mI (b.at Γ2) (fun k=>mN (ixN xs.length k) (fun j=>D.nx (putD Γ2 i (.lst (xs.set j r.d)))) ⟨⟩) ⟨⟩:=h
   cases e2:b.at Γ2 with
   | none=>rw[e2] at h;exact h.elim
   | some d=>
    rw[e2] at h
    cases d with
    | int k=>
     replace h:mN (ixN xs.length k) (fun j=>D.nx (putD Γ2 i (.lst (xs.set j r.d)))) ⟨⟩:=h
     cases e3:ixN xs.length k with
     | none=>rw[e3] at h;exact h.elim
     | some j=>rw[e3] at h;exact⟨xs,k,j,rfl,rfl,e3,h⟩
    | _=>exact h.elim
theorem BV {n:Nat} {S:S3} {t3:jm}:qZ n S t3 Γ Q=(t3 Γ fun bs Γ1=>bs.length=n∧(e7 bs).Nodup∧hold S (gr Γ1 (bs.map some)) (fun r Γa=>Q r (cL ((bs.map some).map dj) Γ1 Γa)) ⟨⟩):=rfl
theorem De {C:Addr} {m:Str} {n:Nat} {S:S3} {o3:TB3} {t3:jm}:iw C m n S o3 t3 Γ Q=(o3 Γ fun x Γ1=>(∃ ns xs,x.at Γ1=some (.ins C ns xs)∧m∉ns)∧t3 Γ1 fun bs Γ2=>bs.length + 1=n∧(e7 (x::bs)).Nodup∧hold S (gr Γ2 ((x::bs).map some)) (fun r Γa=>Q r (cL (((x::bs).map some).map dj) Γ2 Γa)) ⟨⟩):=rfl
end
end L3
namespace L3
open PySem L2
section
variable {K:PySem.W.Frag} {B:Bs} {F:Hp} {σ:L2.St} {H:Hp} {Γ:G}
theorem vS {α:Type} {l:List α} {a b:α} {i:Nat} (h:(l++[a])[i]?=some b):l[i]?=some b∨(i=l.length∧b=a):=by
 rcases Nat.lt_or_ge i l.length with q | q
 ·rw[List.getElem?_append_left q] at h;exact .inl h
 ·have q2:i=l.length:=by
   have:=(List.getElem?_eq_some_iff.mp h).1
   rw[List.length_append,List.length_singleton] at this
   omega
  subst q2
  rw[List.getElem?_append_right (Nat.le_refl _),Nat.sub_self] at h
  exact .inr ⟨rfl,(Option.some.inj h).symm⟩
theorem gX {α:Type} {l:List α} {a b:α} {i:Nat} (h:l[i]?=some b):(l++[a])[i]?=some b:=by
 rw[List.getElem?_append_left (List.getElem?_eq_some_iff.mp h).1];exact h
theorem ku {α:Type} {l:List α} {a:α}:(l++[a])[l.length]?=some a:=by
 rw[List.getElem?_append_right (Nat.le_refl _),Nat.sub_self];rfl
theorem En.push (e:En K B F σ H Γ) {x:Addr} {d:D} (rv:lM K B F σ H Γ (.ref x) (.fr d)):En K B F (σ++[some (V.ref x)]) H (Γ++[some (Sl.ow d)]):=by
 obtain⟨p,e1,hF,ho,hB,hn⟩:=rv
 cases e1
 have hl:=e.len
 have hG:∀ {i:Nat} {s:Sl},(Γ++[some (Sl.ow d)])[i]?=some (some s)→Γ[i]?=some (some s)∨(i=Γ.length∧s=.ow d):=fun h=>by
  rcases vS h with q | ⟨q,q2⟩
  ·exact .inl q
  ·cases q2;exact .inr ⟨q,rfl⟩
 have hS:∀ {i:Nat} {s:Option Sl},Γ[i]?=some s→(σ++[some (V.ref x)])[i]?=σ[i]?:=fun h=>by
  have lt:=(List.getElem?_eq_some_iff.mp h).1
  rw[List.getElem?_append_left (by omega)]
 have hat:(σ++[some (V.ref x)])[Γ.length]?=some (some (V.ref x)):=by rw[← hl];exact ku
 have hH:∀ {i:Nat} {c:D},Hld (Γ++[some (Sl.ow d)]) i c→Hld Γ i c∨(i=Γ.length∧c=d):=fun h=>by
  rcases h with h | h
  ·rcases hG h with q | ⟨q,q2⟩
   ·exact .inl (.inl q)
   ·cases q2;exact .inr ⟨q,rfl⟩
  ·rcases hG h with q | ⟨q,q2⟩
   ·exact .inl (.inr q)
   ·cases q2
 have hHS:∀ {i:Nat} {c:D},Hld Γ i c→(σ++[some (V.ref x)])[i]?=σ[i]?:=fun h=>by
  rcases h with h | h <;> exact hS h
 refine⟨e.sub,by simp [hl],?_,?_,?_,?_,?_,?_,e.keep,e.new,e.rest,e.dom⟩
 ·intro i c h
  rcases hG h with q | ⟨_,q⟩
  ·rw[hS q];exact e.fz i c q
  ·cases q
 ·intro i c h
  rcases hH h with q | ⟨rfl,rfl⟩
  ·rw[hHS q];exact e.hl i c q
  ·exact⟨x,hat,hF,ho⟩
 ·intro i c q h a
  rcases hG h with z | ⟨rfl,z⟩
  ·rw[hS z] at a;exact e.ow i c q z a
  ·rw[hat] at a;cases a;exact hB
 ·intro i c q h a
  rcases hG h with z | ⟨_,z⟩
  ·rw[hS z] at a;exact e.ln i c q z a
  ·cases z
 ·intro i j c c' q h h' a a'
  rcases hH h with z | ⟨rfl,rfl⟩
  ·rw[hHS z] at a
   rcases hH h' with z' | ⟨rfl,rfl⟩
   ·rw[hHS z'] at a';exact e.dis i j c c' q z z' a a'
   ·rw[hat] at a';cases a';exact absurd a (hn i c z)
  ·rw[hat] at a;cases a
   rcases hH h' with z' | ⟨rfl,rfl⟩
   ·rw[hHS z'] at a';exact absurd a' (hn j c' z')
   ·rfl
 ·intro i q h
  obtain⟨a,c,b⟩:=e.par i q h
  exact⟨by rw[hS b];exact a,c,gX b⟩
theorem En.pop {x:Addr} {d:D} (e:En K B F (σ++[some (V.ref x)]) H (Γ++[some (Sl.ow d)])):En K B F σ H Γ∧lM K B F σ H Γ (.ref x) (.fr d):=by
 have hl:σ.length=Γ.length:=by have:=e.len;simpa using this
 have hat:(σ++[some (V.ref x)])[Γ.length]?=some (some (V.ref x)):=by rw[← hl];exact ku
 have hS:∀ {i:Nat} {s:Option Sl},Γ[i]?=some s→(σ++[some (V.ref x)])[i]?=σ[i]?:=fun h=>by
  have lt:=(List.getElem?_eq_some_iff.mp h).1
  rw[List.getElem?_append_left (by omega)]
 have hL:Hld (Γ++[some (Sl.ow d)]) Γ.length d:=.inl ku
 have up:∀ {i:Nat} {c:D},Hld Γ i c→Hld (Γ++[some (Sl.ow d)]) i c:=fun h=>h.imp gX gX
 have hHS:∀ {i:Nat} {c:D},Hld Γ i c→(σ++[some (V.ref x)])[i]?=σ[i]?:=fun h=>by
  rcases h with h | h <;> exact hS h
 obtain⟨p,a,b,c⟩:=e.hl _ _ hL
 rw[hat] at a;cases a
 refine⟨⟨e.sub,hl,?_,?_,?_,?_,?_,?_,e.keep,e.new,e.rest,e.dom⟩,x,rfl,b,c,e.ow _ _ _ ku hat,?_⟩
 ·intro i c h
  have:=e.fz i c (gX h)
  rwa [hS h] at this
 ·intro i c h
  have:=e.hl i c (up h)
  rwa [hHS h] at this
 ·intro i c q h a
  exact e.ow i c q (gX h) (by rw[hS h];exact a)
 ·intro i c q h a
  exact e.ln i c q (gX h) (by rw[hS h];exact a)
 ·intro i j c c' q h h' a a'
  exact e.dis i j c c' q (up h) (up h') (by rw[hHS h];exact a) (by rw[hHS h'];exact a')
 ·intro i q h
  obtain⟨a,c,b'⟩:=e.par i q h
  rcases vS b' with z | ⟨_,z⟩
  ·exact⟨by rw[← hS z];exact a,c,z⟩
  ·cases z
 ·intro i c h q
  have lt:i < Γ.length:=by rcases h with h | h <;> exact(List.getElem?_eq_some_iff.mp h).1
  have:=e.dis i _ c d x (up h) hL (by rw[hHS h];exact q) hat
  omega
end
end L3
namespace L3
open PySem L2
section
variable {K:PySem.W.Frag} {B:Bs} {F:Hp} {σ:L2.St} {H:Hp} {Γ:G}
theorem En.Jd (e:En K B F σ H Γ) {i:Nat} {d0 d1:D} (hh:Hld Γ i d0) {p:Addr} (hp:σ[i]?=some (some (V.ref p))) {o1:HO} (r:Own K F (upd H p o1) p d1):En K B F σ (upd H p o1) (putD Γ i d1):=by
 obtain⟨p0,a0,b0,c0⟩:=e.hl i _ hh
 rw[hp] at a0;cases a0
 obtain⟨o,ho⟩:=c0.some
 have hput:(Γ[i]?=some (some (Sl.ow d0))∧putD Γ i d1=Γ.set i (some (.ow d1)))∨(Γ[i]?=some (some (Sl.ln d0))∧putD Γ i d1=Γ.set i (some (.ln d1))):=by
  rcases hh with q | q
  ·exact .inl ⟨q,by unfold putD;rw[q]⟩
  ·exact .inr ⟨q,by unfold putD;rw[q]⟩
 have il:i < Γ.length:=by rcases hput with ⟨q,_⟩ | ⟨q,_⟩ <;> exact(List.getElem?_eq_some_iff.mp q).1
 have other:∀ {j:Nat},j≠i→(putD Γ i d1)[j]?=Γ[j]?:=fun z=>by
  rcases hput with ⟨_,q⟩ | ⟨_,q⟩ <;> rw[q,bJ (Ne.symm z)]
 have same:∀ {s:Sl},(putD Γ i d1)[i]?=some (some s)→(s=.ow d1∧Γ[i]?=some (some (Sl.ow d0)))∨(s=.ln d1∧Γ[i]?=some (some (Sl.ln d0))):=fun {s} q=>by
  rcases hput with ⟨a,b⟩ | ⟨a,b⟩
  ·rw[b,aE il] at q;cases q;exact .inl ⟨rfl,a⟩
  ·rw[b,aE il] at q;cases q;exact .inr ⟨rfl,a⟩
 have hld:∀ {j x},Hld (putD Γ i d1) j x→(j=i∧x=d1)∨(j≠i∧Hld Γ j x):=fun {j x} q=>by
  by_cases z:j=i
  ·subst z
   left
   rcases q with q | q <;> rcases same q with ⟨h,_⟩ | ⟨h,_⟩ <;> cases h <;> exact⟨rfl,rfl⟩
  ·right;exact⟨z,by unfold Hld at q ⊢;rw[other z] at q;exact q⟩
 have hld':∀ {j x},Hld (putD Γ i d1) j x→∃ y,Hld Γ j y:=fun q=>by
  rcases hld q with ⟨rfl,_⟩ | ⟨_,q⟩
  ·exact⟨_,hh⟩
  ·exact⟨_,q⟩
 refine⟨?_,?_,?_,?_,?_,?_,?_,?_,e.keep,e.new,?_,?_⟩
 ·intro b u q
  have z:b≠p:=fun z=>by subst z;rw[b0] at q;cases q
  rw[aj z];exact e.sub b u q
 ·rcases hput with ⟨_,q⟩ | ⟨_,q⟩ <;> rw[q,List.length_set] <;> exact e.len
 ·intro j d q
  by_cases z:j=i
  ·subst z;rcases same q with ⟨h,_⟩ | ⟨h,_⟩ <;> cases h
  ·rw[other z] at q;exact e.fz j d q
 ·intro j d q
  rcases hld q with ⟨rfl,rfl⟩ | ⟨z,q⟩
  ·exact⟨p,hp,b0,r⟩
  ·obtain⟨p',a,b,c⟩:=e.hl j d q
   have ne:p'≠p:=fun y=>z (e.dis j i _ _ p q hh (y ▸ a) hp)
   exact⟨p',a,b,c.mono (aP.refl F) (aj ne)⟩
 ·intro j d p' q a
  by_cases z:j=i
  ·subst z
   rcases same q with ⟨h,g⟩ | ⟨h,g⟩
   ·exact e.ow j _ p' g a
   ·cases h
  ·rw[other z] at q;exact e.ow j d p' q a
 ·intro j d p' q a
  by_cases z:j=i
  ·subst z
   rcases same q with ⟨h,g⟩ | ⟨h,g⟩
   ·cases h
   ·exact e.ln j _ p' g a
  ·rw[other z] at q;exact e.ln j d p' q a
 ·intro j k d d' p' q1 q2
  obtain⟨y1,h1⟩:=hld' q1
  obtain⟨y2,h2⟩:=hld' q2
  exact e.dis j k y1 y2 p' h1 h2
 ·intro j p' q
  obtain⟨a,d,b⟩:=e.par j p' q
  refine⟨a,?_⟩
  by_cases z:j=i
  ·subst z
   rcases hput with ⟨c,_⟩ | ⟨_,c⟩
   ·rw[b] at c;cases c
   ·exact⟨_,by rw[c,aE il]⟩
  ·exact⟨d,by rw[other z];exact b⟩
 ·intro b u q n
  have z:b≠p:=fun z=>by
   subst z
   rcases hh with g | g
   ·rw[e.ow i _ _ g hp] at q;cases q
   ·exact n i (e.ln i _ _ g hp)
  rw[aj z];exact e.rest b u q n
 ·intro b q
  by_cases z:b=p
  ·subst z;rw[aC] at q;cases q
  ·rw[aj z] at q;exact e.dom b q
def nD (Γ:G) (i:Nat):Option (Addr×List Str×List D):=match Γ[i]? with
 | some (some (.ow (.ins C ns xs)))=>some (C,ns,xs)
 | some (some (.ln (.ins C ns xs)))=>some (C,ns,xs)
 | _=>none
theorem sI {i:Nat} {C:Addr} {ns:List Str} {xs:List D} (h:nD Γ i=some (C,ns,xs)):Hld Γ i (.ins C ns xs):=by
 unfold nD at h
 split at h
 ·cases h;rename_i q;exact .inl q
 ·cases h;rename_i q;exact .inr q
 ·cases h
theorem vq {f:Str} {v:V}:∀ {fs:List (Str×V)},f∉fs.map (·.1)→j7 f v fs=fs++[(f,v)]
 | [],_=>rfl
 | (g,x)::r,h=>by
  simp only[List.map_cons,List.mem_cons,not_or] at h
  show (if g=f then _ else _)=_
  rw[if_neg (Ne.symm h.1),vq h.2];rfl
theorem ax.snoc {xs:List D} {vs:List V} (r:ax K F xs vs) {d:D} {v:V} (q:Rep K F d v):ax K F (xs++[d]) (vs++[v]):=r.append ⟨v,[],rfl,q,rfl⟩
def oI (o:Option (Addr×List Str×List D)) (k:Addr→List Str→List D→Prop):Prop:=match o with
 | some (C,ns,xs)=>k C ns xs
 | none=>False
def z8 (C0:Addr) (i:Nat) (f:Str) (e3:TE3) (D:E3) (Γ:G):Prop:=e3 Γ fun r Γ1=>oI (nD Γ1 i) fun C ns xs=>C=C0∧(f∉ns∧ns.length < 1000)∧D.nx (putD Γ1 i (.ins C (ns++[f]) (xs++[r.d])))
variable {X:Cx} {e:Expr} {te:TE} {e3:TE3} {pos:Pos}
theorem Al {C0:Addr} {i:Nat} {f:Str} (hC:Cls K C0) (hn:fA K C0 f) (h:Ref K te e3):DR K (EN K (fH i) te f) (z8 C0 i f e3):=by
 intro B F σ H Γ D D3 en k q
 refine h B F σ H Γ _ _ en q fun v H1 ⟨F1,Γ1,r,s1,e1,rv,q1⟩=>?_
 obtain⟨F2,s2,e2,rp⟩:=e1.frozen rv
 have q2:oI (nD Γ1 i) fun C ns xs=>C=C0∧(f∉ns∧ns.length < 1000)∧D3.nx (putD Γ1 i (.ins C (ns++[f]) (xs++[r.d]))):=q1
 cases w:nD Γ1 i with
 | none=>rw[w] at q2;exact q2.elim
 | some t=>
  obtain⟨C,ns,xs⟩:=t
  rw[w] at q2
  obtain⟨rfl,⟨hf,hl⟩,q2⟩:=q2
  obtain⟨p,a,b,dx,gs,c1,c2,c3⟩:=e2.hl i _ (sI w)
  refine⟨_,a,p,C,dx,gs,rfl,c1,hC,hn,?_,?_⟩
  ·have:=congrArg List.length c2;rw[List.length_map] at this;omega
  ·have hf':f∉gs.map (·.1):=by rw[c2];exact hf
   rw[vq hf']
   have ow:Own K F2 (upd H1 p (.ins C dx (gs++[(f,v)]))) p (.ins C (ns++[f]) (xs++[r.d])):=⟨dx,gs++[(f,v)],aC,by rw[List.map_append,c2];rfl,by rw[List.map_append];exact c3.snoc rp⟩
   exact k.nx F2 σ _ _ (s1.trans s2) (e2.Jd (sI w) a ow) q2
theorem tW {C0:Addr} (i:Nat) {x f:Str} {px p2:Pos} (hK:X.K=K) (hC:Cls K C0) (hn:fA K C0 f) (hx:P3B K X (.Name x px) (fH i) (bor i)) (he:P3 K X e te e3) (hs:swapsWith e (some (.Attribute (.Name x px) f p2)) pos.line X.env=pure false:=by rfl) :
  P3S K X (.Assign [.Attribute (.Name x px) f p2] e pos) (EN K (fH i) te f) (z8 C0 i f e3):=⟨by subst hK;exact E7 hx.pe he.pe hs,Al hC hn he.rf⟩
end
end L3
namespace L3
open PySem L2
section
variable {K:PySem.W.Frag} {B:Bs} {F:Hp} {σ:L2.St} {H:Hp} {Γ:G} {X:Cx}
theorem dc.push {x:V}:∀ {bs:List Bo} {vs:List V},dc K F σ bs vs→dc K F (σ++[some x]) bs vs
 | [],_,h=>h
 | .d d::bs,_,⟨v,ws,h1,h2,h3⟩=>⟨v,ws,h1,h2,dc.push h3⟩
 | .v i::bs,_,⟨v,ws,h1,h2,h3⟩=>⟨v,ws,h1,gX h2,dc.push h3⟩
theorem dc.ds:∀ {ds:List D} {vs:List V},ax K F ds vs→dc K F σ (ds.map Bo.d) vs
 | [],_,h=>h
 | _::_,_,⟨v,ws,h1,h2,h3⟩=>⟨v,ws,h1,h2,dc.ds h3⟩
theorem vP:∀ ds:List D,e7 (ds.map Bo.d)=[]
 | []=>rfl
 | _::ds=>vP ds
theorem DM (ds:List D) (Γ:G):gr Γ ((ds.map Bo.d).map some)=ds.map fun d=>some (Sl.fz d):=by
 unfold gr;rw[List.map_map,List.map_map];rfl
theorem ye {cs:G} {j:Nat}:∀ ds:List D,newD (((ds.map Bo.d).map some).map dj) cs j=none
 | []=>by cases cs <;> rfl
 | _::ds=>by
  cases cs with
  | nil=>rfl
  | cons c cs=>exact ye (cs:=cs) ds
def HG (Γa:G) (k:D→Prop):Prop:=match Γa with
 | some (.ln d)::_=>k d
 | _=>False
def JZ:D→Bool
 | .non=>true
 | _=>false
def yh (C:Addr) (n:Nat) (S:S3) (t3:TA3) (Γ:G) (Q:RV→G→Prop):Prop:=t3 Γ fun ds Γ1=>ds.length + 1=n∧
 S (some (.ln (.ins C [] []))::ds.map fun d=>some (.fz d)) fun r Γa=>r=.fz .non∧HG Γa fun d=>Q (.fr d) Γ1
theorem Am {C:Addr} {n:Nat} {S:S3} {E:XK} {t:TA} {t3:TA3} (h:Ih K t t3):Ref K (zY C (sp3 K n S) [] E t) (yh C n S t3):=by
 intro B F σ H Γ Q QQ e q k
 refine h B F σ H Γ _ _ e q fun vs H1 ⟨F1,Γ1,ds,s1,e1,r1,hn,q1⟩=>?_
 intro y dy hy hdy ne
 rw[List.append_nil]
 have a1:=e1.alloc hdy (.own y)
 have hy':(upd H1 dy (.own y)) y=none:=by rw[aj (Ne.symm ne)];exact hy
 have e2:En K B F1 σ (upd (upd H1 dy (.own y)) y (.ins C dy [])) Γ1:=a1.alloc hy' _
 have rv:lM K B F1 σ (upd (upd H1 dy (.own y)) y (.ins C dy [])) Γ1 (.ref y) (.fr (.ins C [] [])):=⟨y,rfl,a1.nof hy',⟨dy,[],aC,rfl,rfl⟩,e1.dom _ hy,a1.vE hy'⟩
 have ep:=e2.push rv
 have hl:σ.length=Γ1.length:=e1.len
 have rb:dc K F1 (σ++[some (V.ref y)]) (Bo.v Γ1.length::ds.map Bo.d) (.ref y::vs):=⟨_,_,rfl,by rw[← hl];exact ku,(dc.ds r1).push⟩
 have nd:(e7 (Bo.v Γ1.length::ds.map Bo.d)).Nodup:=by
  show (Γ1.length::e7 (ds.map Bo.d)).Nodup
  rw[vP];simp
 have eG:gr (Γ1++[some (Sl.ow (.ins C [] []))]) ((Bo.v Γ1.length::ds.map Bo.d).map some)=some (.ln (.ins C [] []))::ds.map fun d=>some (.fz d):=by
  rw[List.map_cons,← DM ds (Γ1++[some (Sl.ow (.ins C [] []))])]
  show (some (Bo.v Γ1.length)).bind (nU _)::_=_
  congr 1
  show iy (Γ1++[some (Sl.ow (.ins C [] []))])[Γ1.length]?=_
  rw[ku];rfl
 have len:(V.ref y::vs).length=n:=by rw[← hn,List.length_cons,r1.length]
 refine⟨len,F1,_,_,_,ep.args rb nd,uV,by rw[eG];exact q1,fun r Γa q2 v H' F' e3 rv'=>?_⟩
 obtain⟨rfl,q2⟩:=q2
 obtain⟨sm,eb,_⟩:=ep.called e3 rv'
 have ev:v=.non:=rv'
 cases Γa with
 | nil=>exact q2.elim
 | cons s Γr=>
  cases s with
  | none=>exact q2.elim
  | some s=>
   cases s with
   | fz d=>exact q2.elim
   | ow d=>exact q2.elim
   | ln d=>
    have q2:Q (.fr d) Γ1:=q2
    have eq:cL (((Bo.v Γ1.length::ds.map Bo.d).map some).map dj) (Γ1++[some (Sl.ow (.ins C [] []))]) (some (.ln d)::Γr)=Γ1++[some (Sl.ow d)]:=by
     refine List.ext_getElem? fun j=>?_
     rw[fW]
     show Option.map (nP (if Γ1.length=j then some d else newD (((ds.map Bo.d).map some).map dj) Γr j)) _=_
     by_cases hj:Γ1.length=j
     ·subst hj
      rw[if_pos rfl,ku,ku];rfl
     ·rw[if_neg hj,ye]
      have:(Γ1++[some (Sl.ow d)])[j]?=(Γ1++[some (Sl.ow (.ins C [] []))])[j]?:=by
       rcases Nat.lt_or_ge j Γ1.length with z | z
       ·rw[List.getElem?_append_left z,List.getElem?_append_left z]
       ·rw[List.getElem?_eq_none (by simp;omega),List.getElem?_eq_none (by simp;omega)]
      rw[this]
      cases (Γ1++[some (Sl.ow (.ins C [] []))])[j]? with
      | none=>rfl
      | some s=>cases s with
       | none=>rfl
       | some s=>cases s <;> rfl
    rw[eq] at eb
    obtain⟨e5,rv5⟩:=eb.pop
    exact⟨ev,k _ _ ⟨F',Γ1,.fr d,s1.trans sm,e5,rv5,q2⟩⟩
end
end L3
namespace L3
open PySem L2
section
variable {K:PySem.W.Frag} {B:Bs} {F:Hp} {σ:L2.St} {H:Hp} {Γ:G} {X:Cx} {C f:Addr} {fd:FuncData} {ps:List Str} {x m:Str} {k n:Nat} {S:S3} {p pos:Pos} {e:Expr} {es:List Expr} {t:TA} {t3:TA3} {te:TE} {e3:TE3}
theorem C1 (M:Mk X.K C f) (F:aY X.prog X.w X.K X.mg X.base CX0 k f fd ps (sp3 K n S)) (hr:dQ (k + 1) X.A) (hg:Gl X x) (hm:X.mg x=some (.ref C)) (hb:Binds X.K fd ps [])
  (ha:P3A K X (e::es) t t3) (hdb:(x == ("__debug__":Str))=false:=by decide) (he:starEach (e::es) X.env=(false,eval e X.env)::starEach es X.env:=by rfl) (hpl:(backTo pos (starEach es X.env)).any (·.1)=false:=by rfl) :
  P3 K X (.Call (.Name x p) (e::es) [] pos) (zY C (sp3 K n S) [] E0 t) (yh C n S t3):=⟨CO M F hr hg hm hb .nil vv ha.pe hdb he hpl,Am ha.rf⟩
def frR (r:RV) (k:D→Prop):Prop:=match r with
 | .fr d=>k d
 | _=>False
def BU (i:Nat) (S:S3) (e3:TE3) (Γ:G) (Q:RV→G→Prop):Prop:=(∃ d,Gat Γ i=some d)∧e3 Γ fun r Γ1=>frR r fun d=>S [nU Γ1 (.v i),some (.ln d)] fun r' Γa=>Q r' (cL [some i,none] Γ1 Γa)
end
end L3
namespace L3
open PySem L2
section
variable {K:PySem.W.Frag} {B:Bs} {F:Hp} {σ:L2.St} {H:Hp} {Γ:G} {X:Cx}
def signs (z:Str):List D:=z.cps.toList.map fun c=>D.str (sgn c)
def oS (d:D) (k:Str→Prop):Prop:=match d with
 | .str z=>k z
 | _=>False
theorem Hg {d:D} {k:Str→Prop} (h:oS d k):∃ z,d=.str z∧k z:=by
 cases d <;> first | exact h.elim | exact⟨_,rfl,h⟩
def asc (z:Str):Bool:=z.cps.all (· < 128)
def iS3 (a3:TE3) (Γ:G) (Q:List D→G→Prop):Prop:=a3 Γ fun r Γ1=>oS r.d fun z=>asc z=true∧Q (signs z) Γ1
theorem so (z:Str):(signs z).length=z.cps.size:=by simp [signs]
theorem GO {z:Str}:ItR K F (Its z) (signs z):=by
 refine⟨fun i H' _ lt=>by rw[so] at lt;exact lt,fun i H' _ e=>by rw[so] at e;exact Nat.le_of_eq e.symm,fun i H' x H'' d _ hd y=>?_⟩
 obtain⟨e1,c,hc,rfl⟩:=y
 refine .inl ⟨e1,?_⟩
 unfold signs at hd
 rw[List.getElem?_map,Array.getElem?_toList,hc] at hd
 cases hd;rfl
theorem FX {tg l:Expr} {tl:TE} {l3:TE3} (h:P3 K X l tl l3):P3I K X tg l (Hw tl) (iS3 l3):=⟨Fd h.pe,fun B F σ H Γ Q R e q k=>
 h.rf B F σ H Γ _ _ e q fun v H' ⟨F',Γ',r,s,e',rv,q'⟩=>by
  obtain⟨z,hz,ha,q'⟩:=Hg q'
  obtain⟨F2,s2,e2,r2⟩:=e'.frozen rv
  rw[hz] at r2
  exact⟨z,r2,ha,k _ H' F2 Γ' _ (s.trans s2) e2 GO q'⟩⟩
def GU (lo c:Int) (n:Nat):List D:=(List.range n).map fun (k:Nat)=>D.int (lo + (k:Int) * c)
def FV (t3:TA3) (Γ:G) (Q:List D→G→Prop):Prop:=t3 Γ fun ds Γ1=>∃ i j:Int,ds=[.int i,.int j,.int (-1)]∧(-1000000≤i∧i≤1000000∧-1000000≤j∧j≤1000000)∧Q (GU i (-1) (i - j).toNat) Γ1
def FU (t3:TA3) (Γ:G) (Q:List D→G→Prop):Prop:=t3 Γ fun ds Γ1=>∃ j:Int,ds=[.int j]∧(0≤j∧j < 2 ^ 62)∧Q (GU (j - 1) (-1) j.toNat) Γ1
def FT (t3:TA3) (Γ:G) (Q:List D→G→Prop):Prop:=t3 Γ fun ds Γ1=>∃ z ys,ds=[.str z,.tup ys]∧asc z=true∧z.cps.size≤ys.length∧Q (iA (signs z) ys) Γ1
def tgP (i j k:Nat) (d:D) (Γ:G) (Q:G→Prop):Prop:=∃ x y z,d=.tup [x,.tup [y,z]]∧cK Γ i∧cK (Γ.set i (some (.fz x))) j∧cK ((Γ.set i (some (.fz x))).set j (some (.fz y))) k∧Q (((Γ.set i (some (.fz x))).set j (some (.fz y))).set k (some (.fz z)))
end
end L3
namespace L3
open PySem L2
section
variable {K:PySem.W.Frag} {B:Bs} {F:Hp} {σ:L2.St} {H:Hp} {Γ:G} {X:Cx} {a b o e f:Expr} {ta tb te tf to:TE} {a3 b3:TB3} {e3 f3:TE3} {pos apos cpos:Pos}
def AW (x y:D) (Γ:G) (Q:RV→G→Prop):Prop:=match x,y with
 | .str z,.int n=>(n=0∨n=1)∧z.length≤sizeLine∧Q (.fz (.str (if n=0 then Str.empty else z))) Γ
 | _,_=>False
def B8 (x y:D) (Γ:G) (Q:RV→G→Prop):Prop:=match x,y with
 | .tup xs,.tup ys=>(xs≠[]∧ys≠[]∧xs.length + ys.length≤sizeLine)∧Q (.fz (.tup (xs++ys))) Γ
 | _,_=>False
def oSo (d:Option D) (k:Str→Prop):Prop:=match d with
 | some (.str z)=>k z
 | _=>False
def II (a3:TB3) (l3 h3:TO3) (Γ:G) (Q:RV→G→Prop):Prop:=a3 Γ fun x Γ1=>l3 Γ1 fun lo Γ2=>h3 Γ2 fun hi Γ3=>oSo (x.at Γ3) fun z=>z.length≤sizeLine∧Q (.fz (.str (Txt.slice z lo hi))) Γ3
def HK (z y:Str):Nat:=(Builtin.Str.occurrences z y 0 z.length (z.length + 1)).length
def Jj (o3:TE3) (e3:TE3) (Γ:G) (Q:RV→G→Prop):Prop:=o3 Γ fun x Γ1=>oS x.d fun z=>e3 Γ1 fun r Γ2=>oS r.d fun y=>Q (.fz (.int (HK z y))) Γ2
def dS:D→Bool
 | .str _=>true
 | _=>false
theorem HP (T:TyS X.K):B3 K X (.builtin "isinstance") (fun xs H Q=>∃ x,xs=[x,.ty "str"]∧Kn H x∧Q (.bl (isS x)) H) (is3 "str" dS):=DC (g:=fun _ v=>isS v) (BN T) fun s h hk=>by
 rename_i F H d v
 cases d <;> first
  | (cases h;rfl)
  | (cases hk;done)
  | (obtain⟨p,vs,rfl,_⟩:=h;rfl)
  | (obtain⟨p,rfl,_⟩:=h;rfl)
  | (obtain⟨p,dx,gs,rfl,_⟩:=h;rfl)
def E8 (i:Nat) (Γ:G) (Q:RV→G→Prop):Prop:=mL (cO Γ i) (fun xs=>m1 (xs[xs.length - 1]?) (fun d=>Q (.fz d) (putD Γ i (.lst xs.dropLast))) ⟨⟩) ⟨⟩
def Ax (i:Nat) (Γ:G) (Q:RV→G→Prop):Prop:=mL (cO Γ i) (fun xs=>m1 (xs[0]?) (fun d=>Q (.fz d) (putD Γ i (.lst (xs.eraseIdx 0)))) ⟨⟩) ⟨⟩
def FQ (i:Nat) (k3 e3:TE3) (Γ:G) (Q:RV→G→Prop):Prop:=(∃ xs,cO Γ i=some xs)∧k3 Γ fun rk Γ1=>e3 Γ1 fun r Γ2=>mI (some rk.d) (fun k=>mL (cO Γ2 i) (fun xs=>(0≤k∧k≤(xs.length:Int)∧xs.length < sizeLine)∧Q (.fz .non) (putD Γ2 i (.lst (xs.take k.toNat++r.d::xs.drop k.toNat)))) ⟨⟩) ⟨⟩
end
end L3
namespace L3
open PySem L2
mutual
def dt:D→PyData
 | .non=>.none
 | .bl b=>.bool b
 | .int i=>.int i
 | .str x=>.str x
 | .lst xs=>.list (dtL xs)
 | .tup xs=>.tuple (dtL xs)
 | _=>.none
def dtL:List D→List PyData
 | []=>[]
 | x::xs=>dt x::dtL xs
end
inductive Sh:Nat→Nat→D→Prop where
 | non:Sh 100 1 .non
 | bl (b:Bool):Sh 100 1 (.bl b)
 | int {i:Int} (h:i.natAbs < 10 ^ 60):Sh 100 1 (.int i)
 | str {x:Str} (h:(PyData.shown (.str x)).length≤100):Sh 100 1 (.str x)
 | lst {n k l:Nat} {xs:List D} (h:∀ x∈xs,Sh n k x) (hl:xs.length≤l):Sh (l * (n + 2) + 3) (k + 1) (.lst xs)
 | tup {n k l:Nat} {xs:List D} (h:∀ x∈xs,Sh n k x) (hl:xs.length≤l):Sh (l * (n + 2) + 3) (k + 1) (.tup xs)
 | up {n k n' k':Nat} {d:D} (h:Sh n k d) (h1:n≤n') (h2:k≤k'):Sh n' k' d
structure ShD (n k:Nat) (d:D):Prop where
 sh:(dt d).showable=true
 nd:(dt d).hasDict=false
 dp:(dt d).depth≤k
 ln:(dt d).shown.length≤n
 dt:∀ {K:PySem.W.Frag} {F H:Hp} {v:V},aP F H→Rep K F d v→Dt K H v (dt d)
theorem Dq {i:Int} (h:i.natAbs < 10 ^ 60):(PyData.shown (.int i)).length≤100:=by
 have e:=int_text_length_le10 (k:=60) (by decide) h
 show (Str.ofString (toString i)).length≤100
 rw[ofString_length]
 omega
theorem FP {i:Int} (h:i.natAbs < 10 ^ 60):PyData.showable (.int i)=true:=by
 show decide (i.natAbs.log2 < 1920)=true
 rw[decide_eq_true_eq]
 by_cases h0:i.natAbs=0
 ·rw[h0];decide
 ·rw[Nat.log2_lt h0]
  exact Nat.lt_of_lt_of_le (show i.natAbs < 2 ^ 200 from Nat.lt_trans h (by decide)) (Nat.pow_le_pow_right (by decide) (by decide))
theorem shL {n k:Nat}:∀ {xs:List D},(∀ x∈xs,ShD n k x)→PyData.showableAll (dtL xs)=true∧PyData.hasDictAll (dtL xs)=false∧PyData.depthAll (dtL xs)≤k∧((PyData.shownAll (dtL xs)).map (·.length)).sum≤xs.length * n∧(PyData.shownAll (dtL xs)).length=xs.length∧
  ∀ {K:PySem.W.Frag} {F H:Hp} {vs:List V},aP F H→ax K F xs vs→fG K H vs (dtL xs)
 | [],_=>⟨rfl,rfl,by simp [dtL,PyData.depthAll],by simp [dtL,PyData.shownAll],rfl,fun _ r=>by cases r;exact .nil⟩
 | x::xs,h=>by
  obtain⟨h1,h2,h3,h4,h5,h6⟩:=shL (xs:=xs) fun y hy=>h y (List.mem_cons_of_mem _ hy)
  have e:=h x List.mem_cons_self
  have e4:=e.ln
  have e3:=e.dp
  refine⟨?_,?_,?_,?_,?_,fun s r=>?_⟩
  ·simp only[dtL,PyData.showableAll,e.sh,h1,Bool.and_self]
  ·simp only[dtL,PyData.hasDictAll,e.nd,h2,Bool.or_self]
  ·simp only[dtL,PyData.depthAll];omega
  ·simp only[dtL,PyData.shownAll,List.map_cons,List.sum_cons,List.length_cons,Nat.add_mul,Nat.one_mul];omega
  ·simp only[dtL,PyData.shownAll,List.length_cons,h5]
  ·obtain⟨v,ws,rfl,r1,r2⟩:=r
   exact .cons (e.dt s r1) (h6 s r2)
theorem Sh.spec {n k:Nat} {d:D} (h:Sh n k d):ShD n k d:=by
 induction h with
 | non=>exact⟨rfl,rfl,by simp [dt,PyData.depth],by decide,fun _ r=>by cases r;exact .non⟩
 | bl b=>exact⟨rfl,rfl,by simp [dt,PyData.depth],by cases b <;> decide,fun _ r=>by cases r;exact .bl b⟩
 | @int i h=>exact⟨FP h,rfl,by simp [dt,PyData.depth],Dq h,fun _ r=>by cases r;exact .int i⟩
 | @str x h=>exact⟨rfl,rfl,by simp [dt,PyData.depth],h,fun _ r=>by cases r;exact .str x⟩
 | @lst n k l xs h hl ih=>
  obtain⟨h1,h2,h3,h4,h5,h6⟩:=shL ih
  refine⟨by simp only[dt,PyData.showable,h1],by simp only[dt,PyData.hasDict,h2],by simp only[dt,PyData.depth];omega,?_,fun s r=>?_⟩
  ·have e:=listText_len_le (PyData.shownAll (dtL xs))
   have e2:(PyData.shown (dt (.lst xs)))=listText (PyData.shownAll (dtL xs)):=by simp only[dt,PyData.shown]
   rw[e2]
   have e3:xs.length * n≤l * n:=Nat.mul_le_mul_right _ hl
   have e4:l * (n + 2)=l * n + l * 2:=Nat.mul_add ..
   omega
  ·obtain⟨p,vs,rfl,g,r⟩:=r
   exact .lst (SqL.of (s _ _ g)) (h6 s r)
 | @tup n k l xs h hl ih=>
  obtain⟨h1,h2,h3,h4,h5,h6⟩:=shL ih
  refine⟨by simp only[dt,PyData.showable,h1],by simp only[dt,PyData.hasDict,h2],by simp only[dt,PyData.depth];omega,?_,fun s r=>?_⟩
  ·have e:=tupleText_len_le (PyData.shownAll (dtL xs))
   have e2:(PyData.shown (dt (.tup xs)))=tupleText (PyData.shownAll (dtL xs)):=by simp only[dt,PyData.shown]
   rw[e2]
   have e3:xs.length * n≤l * n:=Nat.mul_le_mul_right _ hl
   have e4:l * (n + 2)=l * n + l * 2:=Nat.mul_add ..
   omega
  ·obtain⟨p,vs,rfl,g,r⟩:=r
   exact .tup (.inl (.inl (s _ _ g))) (h6 s r)
 | up h h1 h2 ih=>exact⟨ih.sh,ih.nd,Nat.le_trans ih.dp h2,Nat.le_trans ih.ln h1,ih.dt⟩
def z9:D→Bool
 | .lst _=>true
 | .tup _=>true
 | _=>false
def shw (d:D):Str:=(dt d).shown
def vj (ds:List D) (Γ:G) (Q:RV→G→Prop):Prop:=match ds with
 | [d]=>(z9 d=true∧Sh 10000000 20 d)∧Q (.fz (.str (shw d))) Γ
 | _=>False
section
variable {K:PySem.W.Frag} {B:Bs} {F:Hp} {σ:L2.St} {H:Hp} {Γ:G} {X:Cx}
theorem Sh.dtB {n k:Nat} {d:D} (h:Sh n k d) (hs:z9 d=true) {v:V} (s:aP F H) (r:hZ K F H d v):∃ a,v=.ref a∧Dt K H v (dt d):=by
 cases d with
 | lst xs=>
  obtain⟨p,vs,rfl,g,r⟩:=r
  refine⟨p,rfl,?_⟩
  have go:∀ {n k:Nat} {d:D},Sh n k d→∀ xs,d=.lst xs→∀ x∈xs,∃ n k,Sh n k x:=by
   intro n k d h
   induction h with
   | lst h hl ih=>intro xs e x hx;cases e;exact⟨_,_,h x hx⟩
   | up h h1 h2 ih=>exact ih
   | _=>intro xs e;cases e
  have all:∀ {ys:List D} {ws:List V},(∀ x∈ys,∃ n k,Sh n k x)→ax K F ys ws→fG K H ws (dtL ys):=by
   intro ys
   induction ys with
   | nil=>intro ws _ r;cases r;exact .nil
   | cons y ys ih=>
    intro ws hh r
    obtain⟨w,ws',rfl,r1,r2⟩:=r
    obtain⟨n',k',hy⟩:=hh y List.mem_cons_self
    exact .cons (hy.spec.dt s r1) (ih (fun z hz=>hh z (List.mem_cons_of_mem _ hz)) r2)
  exact .lst (SqL.of g) (all (go h xs rfl) r)
 | tup xs=>
  have r':Rep K F (.tup xs) v:=r
  have q:=h.spec.dt s r'
  obtain⟨p,vs,rfl,_⟩:=r'
  exact⟨p,rfl,q⟩
 | _=>cases hs
theorem oO {k:Nat} (hK:X.K=K) (hr:dQ k X.A):B3 K X (.builtin "repr") (fun xs H Q=>∃ a d,xs=[.ref a]∧Dt K H (.ref a) d∧Shw d∧Q (.str d.shown) H) vj:=⟨by subst hK;exact xP hr,by
 intro B F σ H Γ vs ds Q QQ e r q k
 unfold vj at q
 split at q
 ·obtain⟨⟨hs,hS⟩,q⟩:=q
  obtain⟨v,rfl,r1⟩:=r.one
  obtain⟨a,rfl,hd⟩:=hS.dtB hs e.sub r1
  have sp:=hS.spec
  exact⟨a,_,rfl,hd,⟨sp.sh,sp.nd,sp.dp,by rw[sizeLine_eq];have:=sp.ln;omega⟩,k _ _ (wV e q)⟩
 ·exact q.elim⟩
end
end L3
namespace L3
open PySem L2
section
variable {K:PySem.W.Frag} {B:Bs} {F:Hp} {σ:L2.St} {H:Hp} {Γ:G} {X:Cx} {a o e f:Expr} {ta te tf:TE} {a3:TB3} {e3 f3:TE3} {pos apos cpos:Pos}
def vT (C0:Addr) (f:Str) (x:D) (Γ:G) (Q:RV→G→Prop):Prop:=match x with
 | .ins C ns xs=>C=C0∧m1 ((ns.zip xs).lookup f) (fun d=>Q (.fz d) Γ) ⟨⟩
 | _=>False
theorem C2 {f:Str} {C0:Addr} (hK:X.K=K) (ha:P3B K X a ta a3) (hC:Cls K C0) (hn:fA K C0 f) (hb:attributeBase a f X.env (eval a X.env)=eval a X.env:=by rfl) :
  P3 K X (.Attribute a f pos) (GL K ta f) (z0 (vT C0 f) a3):=⟨by subst hK;exact Fi ha.pe hb,Ak (r:=fun x H1 Q=>∃ a C dx fs v,x=.ref a∧H1 a=some (.ins C dx fs)∧Cls K C∧fA K C f∧fs.lookup f=some v∧Q v H1) (ta:=ta) (by
 intro B F σ H Γ x dx Q QQ e rx q k
 unfold vT at q
 split at q
 ·obtain⟨rfl,q⟩:=q
  obtain⟨d,hd,q⟩:=gH.mp q
  obtain⟨p,dx,gs,rfl,h1,h2,h3⟩:=rx
  obtain⟨v,hv,r⟩:=ax.lookup h2 h3 hd
  exact⟨p,_,dx,gs,v,rfl,h1,hC,hn,hv,k _ _ (iT e r q)⟩
 ·exact q.elim) ha.rf⟩
def kt (zs:List Str):D:=.ktup (zs.map .str)
structure Gy (K:PySem.W.Frag) (mg:Str→Option Value) (x:Str) (p:Addr) (zs:List Str):Prop where
 mg:mg x=some (.ref p)
 sq:∀ F:Hp,SqT K F p (zs.map V.str)
theorem ax.strs:∀ (zs:List Str),ax K F (zs.map D.str) (zs.map V.str)
 | []=>rfl
 | z::zs=>⟨_,_,rfl,rfl,ax.strs zs⟩
theorem ly {x:Str} {zs:List Str} {p:Addr} {pos:Pos} (hg:Gl X x) (hm:Gy K X.mg x p zs) (hd:(x == ("__debug__":Str))=false:=by decide):P3 K X (.Name x pos) (tC (.ref p)) (t3C (kt zs)):=
 ⟨yb hg hm.mg rfl hd,sx fun F=>⟨p,_,rfl,hm.sq F,ax.strs zs⟩⟩
def New (H H' F:Hp):Prop:=∀ b o,H b=none→H' b=some o→F b=some o
def Lit (K:PySem.W.Frag) (te:TE) (d:D):Prop:=∀ (σ:L2.St) (H:Hp) (Q:VK),(∀ v H',aP H H'→(∀ F,New H H' F→Rep K F d v)→Q v H')→te σ H Q
def J_ (K:PySem.W.Frag) (t:TA) (ds:List D):Prop:=∀ (σ:L2.St) (H:Hp) (Q:List V→Hp→Prop),(∀ vs H',aP H H'→vs.length=ds.length→(∀ F,New H H' F→ax K F ds vs)→Q vs H')→t σ H Q
def HJ (i:Nat) (k1 k2:Str) (d1 d2 d0:D) (Γ:G) (Q:RV→G→Prop):Prop:=oSo (Gat Γ i) fun w=>Q (.fz (if w=k1 then d1 else if w=k2 then d2 else d0)) Γ
end
end L3
namespace L3
open PySem L2
section
variable {K:PySem.W.Frag} {B:Bs} {F:Hp} {σ:L2.St} {H:Hp} {Γ:G} {X:Cx} {e:Expr} {te:TE} {e3:TE3} {pos:Pos}
def Gu (i:Nat) (e3:TE3) (D:E3) (Γ:G):Prop:=mI (Gat Γ i) (fun m=>e3 Γ fun r Γ1=>mI (some r.d) (fun n=>cK Γ1 i∧D.nx (Γ1.set i (some (.fz (.int (m + n)))))) ⟨⟩) ⟨⟩
end
end L3
namespace L3
open PySem L2
def oIt (o:Option (Addr×List Str×List D)) (k:Addr→List Str→List D→Prop) (_:Tag k):Prop:=oI o k
theorem qE {C:Addr} {ns:List Str} {xs:List D} {k:Addr→List Str→List D→Prop} {t:Tag k}:oIt (some (C,ns,xs)) k t=k C ns xs:=rfl
def oSt (o:D) (k:Str→Prop) (_:Tag k):Prop:=oS o k
theorem ud {z:Str} {k:Str→Prop} {t:Tag k}:oSt (.str z) k t=k z:=rfl
def Fx (o:Option D) (k:Str→Prop) (_:Tag k):Prop:=oSo o k
theorem qD {z:Str} {k:Str→Prop} {t:Tag k}:Fx (some (.str z)) k t=k z:=rfl
def Br (o:G) (k:D→Prop) (_:Tag k):Prop:=HG o k
theorem uw {d:D} {Γ:G} {k:D→Prop} {t:Tag k}:Br (some (.ln d)::Γ) k t=k d:=rfl
def FZ (o:RV) (k:D→Prop) (_:Tag k):Prop:=frR o k
theorem xH {d:D} {k:D→Prop} {t:Tag k}:FZ (.fr d) k t=k d:=rfl
section
variable {Γ:G} {Q:RV→G→Prop} {QI:List D→G→Prop} {C C0:Addr} {i n:Nat} {f:Str} {S:S3} {e3:TE3} {a3:TB3} {t3:TA3} {D1:E3} {k1 k2:Str} {d1 d2 d0:D} {l3 h3:TO3}
theorem tK:z8 C0 i f e3 D1 Γ=(e3 Γ fun r Γ1=>oIt (nD Γ1 i) (fun C ns xs=>C=C0∧(f∉ns∧ns.length < 1000)∧D1.nx (putD Γ1 i (.ins C (ns++[f]) (xs++[r.d])))) ⟨⟩):=rfl
theorem Dg:yh C n S t3 Γ Q=(t3 Γ fun ds Γ1=>ds.length + 1=n∧hold S (some (.ln (.ins C [] []))::ds.map fun d=>some (.fz d)) (fun r Γa=>r=.fz .non∧Br Γa (fun d=>Q (.fr d) Γ1) ⟨⟩) ⟨⟩):=rfl
theorem BS:BU i S e3 Γ Q=((∃ d,Gat Γ i=some d)∧e3 Γ fun r Γ1=>FZ r (fun d=>hold S [nU Γ1 (.v i),some (.ln d)] (fun r' Γa=>Q r' (cL [some i,none] Γ1 Γa)) ⟨⟩) ⟨⟩):=rfl
theorem Ba:iS3 e3 Γ QI=(e3 Γ fun r Γ1=>oSt r.d (fun z=>asc z=true∧QI (signs z) Γ1) ⟨⟩):=rfl
theorem wM:II a3 l3 h3 Γ Q=(a3 Γ fun x Γ1=>l3 Γ1 fun lo Γ2=>h3 Γ2 fun hi Γ3=>Fx (x.at Γ3) (fun z=>z.length≤sizeLine∧Q (.fz (.str (Txt.slice z lo hi))) Γ3) ⟨⟩):=rfl
theorem xO {o3:TE3}:Jj o3 e3 Γ Q=(o3 Γ fun x Γ1=>oSt x.d (fun z=>e3 Γ1 fun r Γ2=>oSt r.d (fun y=>Q (.fz (.int (HK z y))) Γ2) ⟨⟩) ⟨⟩):=rfl
theorem uE:HJ i k1 k2 d1 d2 d0 Γ Q=Fx (Gat Γ i) (fun w=>Q (.fz (if w=k1 then d1 else if w=k2 then d2 else d0)) Γ) ⟨⟩:=rfl
end
end L3
namespace L3
open PySem L2
def bT (c:Bool) (p q:Prop) (_:Tag p) (_:Tag q):Prop:=match c with
 | true=>p
 | false=>q
theorem H8 {p q:Prop} {s:Tag p} {t:Tag q}:bT true p q s t=p:=rfl
theorem H9 {p q:Prop} {s:Tag p} {t:Tag q}:bT false p q s t=q:=rfl
section
variable {Γ:G} {Q:RV→G→Prop} {QB:Bo→G→Prop} {QT:Bool→G→Prop} {QA:List D→G→Prop} {QL:List Bo→G→Prop} {QO:Option Int→G→Prop} {QG:G→Prop} {i j:Nat} {is:List Nat} {D1:E3} {t u:TS3} {e3 f3:TE3} {a3 b3 c3:TB3} {A3 B3:TT3} {t3:TA3} {tb:jm} {d:D} {l3 h3 s3:TO3} {bb:mF} {ys:List D}
theorem Ed:z_ t u D1 Γ=t { D1 with nx:=u D1 } Γ:=rfl
theorem Bl:AU D1 Γ=D1.nx Γ:=rfl
theorem Ec:y0 i e3 D1 Γ=(e3 Γ fun r Γ1=>cK Γ1 i∧D1.nx (Γ1.set i (some r.sl))):=rfl
theorem Ee:ET e3 D1 Γ=e3 Γ D1.rt:=rfl
theorem Bm:BG e3 D1 Γ=(e3 Γ fun _ Γ1=>D1.nx Γ1):=rfl
theorem Eb:tst e3 Γ QT=(e3 Γ fun x Γ1=>match x.d with | .bl k=>QT k Γ1 | _=>False):=rfl
theorem Ek:bor i Γ QB=((∃ d,Gat Γ i=some d)∧QB (.v i) Γ):=rfl
theorem El:bof e3 Γ QB=(e3 Γ fun x Γ1=>QB (.d x.d) Γ1):=rfl
theorem yq:BH a3 tb Γ QL=(a3 Γ fun x Γ1=>tb Γ1 fun xs Γ2=>QL (x::xs) Γ2):=rfl
theorem Bj:AS Γ QL=QL [] Γ:=rfl
theorem Bn:kP e3 t3 Γ QA=(e3 Γ fun x Γ1=>t3 Γ1 fun xs Γ2=>QA (x.d::xs) Γ2):=rfl
theorem Eg:ze Γ QA=QA [] Γ:=rfl
theorem h_c:t3C d Γ Q=Q (.fz d) Γ:=rfl
theorem Eo:DO A3 B3 Γ QT=(A3 Γ fun c Γ1=>bT c (B3 Γ1 QT) (QT false Γ1) ⟨⟩ ⟨⟩):=by
 show (A3 Γ fun c Γ1=>match c with | true=>B3 Γ1 QT | false=>QT false Γ1)=_
 congr 1
theorem HA:or3 A3 B3 Γ QT=(A3 Γ fun c Γ1=>bT c (QT true Γ1) (B3 Γ1 QT) ⟨⟩ ⟨⟩):=by
 show (A3 Γ fun c Γ1=>match c with | true=>QT true Γ1 | false=>B3 Γ1 QT)=_
 congr 1
theorem Ef:Dc A3 Γ QT=(A3 Γ fun c Γ1=>QT (!c) Γ1):=rfl
theorem HB:if3 A3 e3 f3 Γ Q=(A3 Γ fun c Γ1=>bT c (e3 Γ1 Q) (f3 Γ1 Q) ⟨⟩ ⟨⟩):=by
 show (A3 Γ fun c Γ1=>match c with | true=>e3 Γ1 Q | false=>f3 Γ1 Q)=_
 congr 1
theorem Eh:FD t3 Γ Q=(t3 Γ fun xs Γ1=>xs.length≤sizeLine∧Q (.fr (.lst xs)) Γ1):=rfl
theorem Ea:yX t3 Γ Q=(t3 Γ fun xs Γ1=>xs.length≤sizeLine∧Q (.fz (.tup xs)) Γ1):=rfl
theorem Em:DN i e3 Γ Q=((∃ xs,cO Γ i=some xs)∧e3 Γ fun r Γ1=>∃ xs,cO Γ1 i=some xs∧xs.length < sizeLine∧Q (.fz .non) (putD Γ1 i (.lst (xs++[r.d])))):=rfl
theorem Bh:z7 is e3 D1 Γ=(e3 Γ fun r Γ1=>∃ ds Γ',r.d=.tup ds∧gives Γ1 is ds=some Γ'∧frees Γ1 is ds∧D1.nx Γ'):=rfl
theorem Bg:z5 a3 Γ QO=(a3 Γ fun x Γ1=>∃ i,x.at Γ1=some (.int i)∧QO (some i) Γ1):=rfl
theorem Bi:AR Γ QO=QO none Γ:=rfl
abbrev hI (Iv:Nat→G→Prop) (k:Nat) (Γ:G) (_:Tag Iv):Prop:=Iv k Γ
def D4 (xs:List D) (Γ1:G) (g3:TG3) (b3:TS3) (E1:E3) (_:Tag (g3,b3,E1)):Prop:=∃ Iv:Nat→G→Prop,Iv 0 Γ1∧(∀ k d Γ,xs[k]?=some d→Iv k Γ→g3 d Γ fun Γ'=>b3 { E1 with nx:=Iv (k + 1),ct:=Iv (k + 1),bk:=E1.nx } Γ')∧∀ Γ,Iv xs.length Γ→E1.nx Γ
theorem Ej {i3:TI3} {g3:TG3} {b3:TS3} {t1:Tag (i3,g3,b3)} {t2:Tag D1}:F7 i3 g3 b3 D1 Γ t1 t2=(i3 Γ fun xs Γ1=>D4 xs Γ1 g3 b3 D1 ⟨⟩):=rfl
theorem iY {xs:List D} {Γ1:G} {g3:TG3} {b3:TS3} {E1:E3} {t:Tag (g3,b3,E1)} (Iv:Nat→G→Prop) (h0:Iv 0 Γ1) (hs:∀ k d Γ,xs[k]?=some d→Iv k Γ→g3 d Γ fun Γ'=>b3 { E1 with nx:=fun Γ=>hI Iv (k + 1) Γ ⟨⟩,ct:=fun Γ=>hI Iv (k + 1) Γ ⟨⟩,bk:=E1.nx } Γ')
  (he:∀ Γ,Iv xs.length Γ→E1.nx Γ):D4 xs Γ1 g3 b3 E1 t:=⟨Iv,h0,hs,he⟩
abbrev hJ (Iv:Nat→List D→G→Prop) (k:Nat) (ys:List D) (Γ:G) (_:Tag Iv):Prop:=Iv k ys Γ
def Et (xs:List D) (Γ1:G) (fr:List (Option Nat)) (g3:TG3) (e3:TE3) (Q:RV→G→Prop) (_:Tag (fr,g3,e3,Q)):Prop:=∃ Iv:Nat→List D→G→Prop,Iv 0 [] (gr Γ1 (ic fr))∧
 (∀ k d ys Γc,xs[k]?=some d→ys.length=k→Iv k ys Γc→g3 d Γc fun Γ2=>e3 Γ2 fun r Γ3=>Iv (k + 1) (ys++[r.d]) Γ3)∧∀ ys Γc,ys.length=xs.length→Iv xs.length ys Γc→Q (.fr (.lst ys)) (cL fr Γ1 Γc)
theorem Bp {fr:List (Option Nat)} {i3:TI3} {g3:TG3} {t1:Tag (fr,i3,g3,e3)} {t2:Tag Q}:yA fr i3 g3 e3 Γ Q t1 t2=(i3 Γ fun xs Γ1=>xs.length < sizeLine∧Et xs Γ1 fr g3 e3 Q ⟨⟩):=rfl
theorem cv {xs:List D} {Γ1:G} {fr:List (Option Nat)} {g3:TG3} {e3:TE3} {Q:RV→G→Prop} {t:Tag (fr,g3,e3,Q)} (Iv:Nat→List D→G→Prop) (h0:Iv 0 [] (gr Γ1 (ic fr)))
  (hs:∀ k d ys Γc,xs[k]?=some d→ys.length=k→Iv k ys Γc→g3 d Γc fun Γ2=>e3 Γ2 fun r Γ3=>hJ Iv (k + 1) (ys++[r.d]) Γ3 ⟨⟩) (he:∀ ys Γc,ys.length=xs.length→Iv xs.length ys Γc→Q (.fr (.lst ys)) (cL fr Γ1 Γc)):Et xs Γ1 fr g3 e3 Q t:=⟨Iv,h0,hs,he⟩
def BI (xs:List D) (Γ1:G) (fr:List (Option Nat)) (g3:TG3) (b3:mF) (Q:RV→G→Prop) (_:Tag (fr,g3,b3,Q)):Prop:=yk xs g3 b3 [] (gr Γ1 (ic fr)) fun ys Γc=>ys.length < sizeLine∧Q (.fr (.lst ys)) (cL fr Γ1 Γc)
theorem yr {fr:List (Option Nat)} {i3:TI3} {g3:TG3} {t1:Tag (fr,i3,g3,bb)} {t2:Tag Q}:BJ fr i3 g3 bb Γ Q t1 t2=(i3 Γ fun xs Γ1=>BI xs Γ1 fr g3 bb Q ⟨⟩):=rfl
theorem sO {xs:List D} {Γ1:G} {fr:List (Option Nat)} {g3:TG3} {b3:mF} {Q:RV→G→Prop} {t:Tag (fr,g3,b3,Q)} (Iv:Nat→List D→G→Prop) (h0:Iv 0 [] (gr Γ1 (ic fr)))
  (hs:∀ k d ys Γ,xs[k]?=some d→Iv k ys Γ→g3 d Γ fun Γ'=>b3 ys Γ' fun ys Γ=>hJ Iv (k + 1) ys Γ ⟨⟩) (he:∀ ys Γc,Iv xs.length ys Γc→ys.length < sizeLine∧Q (.fr (.lst ys)) (cL fr Γ1 Γc)):BI xs Γ1 fr g3 b3 Q t:=⟨Iv,h0,hs,he⟩
theorem By {n:Nat} {xs:List D}:eqN (n + 1) (.lst xs) (.lst [])=some xs.isEmpty:=by cases n <;> cases xs <;> rfl
theorem Bz {n:Nat} {a b c:Int}:eqN (n + 1) (.lst [.int a,.int b,.int c]) (.lst [.int a,.int b,.int c])=some true:=by
 have:=i4 (n:=n) [a,b,c] [a,b,c]
 rw[decide_eq_true rfl] at this
 exact this
theorem i28 {a b:Option D}:(if 2=8 then a else b)=b:=if_neg (by decide)
def Bb (S:S3) (A:G) (L:List (Option Nat)) (Γ1:G) (Q:RV→G→Prop) (_:Tag Q):Prop:=S A (fun r Γa=>Q r (cL L Γ1 Γa))
def Hy (S:S3) (A:G) (Γ1:G) (Q:RV→G→Prop) (_:Tag Q):Prop:=S A (fun r Γa=>r=.fz .non∧Br Γa (fun d=>Q (.fr d) Γ1) ⟨⟩)
theorem yD {n:Nat} {S:S3} {t3:jm}:qZ n S t3 Γ Q=(t3 Γ fun bs Γ1=>bs.length=n∧(e7 bs).Nodup∧Bb S (gr Γ1 (bs.map some)) ((bs.map some).map dj) Γ1 Q ⟨⟩):=rfl
theorem AY {C:Addr} {m:Str} {n:Nat} {S:S3} {o3:TB3} {t3:jm}:iw C m n S o3 t3 Γ Q=(o3 Γ fun x Γ1=>(∃ ns xs,x.at Γ1=some (.ins C ns xs)∧m∉ns)∧t3 Γ1 fun bs Γ2=>bs.length + 1=n∧(e7 (x::bs)).Nodup∧Bb S (gr Γ2 ((x::bs).map some)) (((x::bs).map some).map dj) Γ2 Q ⟨⟩):=rfl
theorem A0 {C:Addr} {n:Nat} {S:S3} {t3:TA3}:yh C n S t3 Γ Q=(t3 Γ fun ds Γ1=>ds.length + 1=n∧Hy S (some (.ln (.ins C [] []))::ds.map fun d=>some (.fz d)) Γ1 Q ⟨⟩):=rfl
theorem yC {S:S3}:BU i S e3 Γ Q=((∃ d,Gat Γ i=some d)∧e3 Γ fun r Γ1=>FZ r (fun d=>Bb S [nU Γ1 (.v i),some (.ln d)] [some i,none] Γ1 Q ⟨⟩) ⟨⟩):=rfl
def bG (c:Bool) (t u:TS3) (E1:E3) (Γ:G) (_:Tag (t,u,E1)):Prop:=match c with
 | true=>t E1 Γ
 | false=>u E1 Γ
theorem H_ {s:Tag (t,u,D1)}:bG true t u D1 Γ s=t D1 Γ:=rfl
theorem Ia {s:Tag (t,u,D1)}:bG false t u D1 Γ s=u D1 Γ:=rfl
theorem jj {c:Bool} {s:Tag (t,u,D1)} (h1:c=true→t D1 Γ) (h2:c=false→u D1 Γ):bG c t u D1 Γ s:=by
 cases c with
 | true=>exact h1 rfl
 | false=>exact h2 rfl
theorem Ei:FR A3 t u D1 Γ=(A3 Γ fun c Γ1=>bG c t u D1 Γ1 ⟨⟩):=by
 show (A3 Γ fun c Γ1=>match c with | true=>t D1 Γ1 | false=>u D1 Γ1)=_
 congr 1
theorem HC {e:D}:kP (t3C e) t3 Γ QA=(t3 Γ fun xs Γ2=>QA (e::xs) Γ2):=rfl
theorem Bf {d e:D}:yX (kP (t3C d) (kP (t3C e) ze)) Γ Q=Q (.fz (.tup [d,e])) Γ:=by
 show (2≤sizeLine∧Q (.fz (.tup [d,e])) Γ)=_
 exact propext ⟨fun h=>h.2,fun h=>⟨by rw[sizeLine_eq];decide,h⟩⟩
theorem HD {d e:D}:kP (yX (kP (t3C d) (kP (t3C e) ze))) t3 Γ QA=(t3 Γ fun xs Γ2=>QA (.tup [d,e]::xs) Γ2):=by
 show yX (kP (t3C d) (kP (t3C e) ze)) Γ (fun x Γ1=>t3 Γ1 fun xs Γ2=>QA (x.d::xs) Γ2)=_
 rw[Bf];rfl
end
theorem ln0 {α:Type} {us:List α} (h:us.length=0):us=[]:=List.eq_nil_of_length_eq_zero h
theorem ln1 {α:Type} {us:List α} (h:us.length=1):∃ a,us=[a]:=by
 match us,h with
 | [a],_=>exact⟨a,rfl⟩
theorem ln2 {α:Type} {us:List α} (h:us.length=2):∃ a b,us=[a,b]:=by
 match us,h with
 | [a,b],_=>exact⟨a,b,rfl⟩
theorem ln3 {α:Type} {us:List α} (h:us.length=3):∃ a b c,us=[a,b,c]:=by
 match us,h with
 | [a,b,c],_=>exact⟨a,b,c,rfl⟩
theorem ln5 {α:Type} {us:List α} (h:us.length=5):∃ a b c d e,us=[a,b,c,d,e]:=by
 match us,h with
 | [a,b,c,d,e],_=>exact⟨a,b,c,d,e,rfl⟩
end L3
namespace L3
open PySem L2
mutual
def fv:D→List Addr
 | .cel p xs=>p::gI xs
 | .lst xs=>gI xs
 | .tup xs=>gI xs
 | .ktup xs=>gI xs
 | .ins _ _ xs=>gI xs
 | _=>[]
def gI:List D→List Addr
 | []=>[]
 | x::xs=>fv x++gI xs
end
def Sl.d:Sl→D
 | .fz d=>d
 | .ow d=>d
 | .ln d=>d
def hU:G→List Addr
 | []=>[]
 | none::Γ=>hU Γ
 | some s::Γ=>fv s.d++hU Γ
section
variable {K:PySem.W.Frag} {B:Bs} {F:Hp} {σ:L2.St} {H:Hp} {Γ:G} {X:Cx}
mutual
theorem Rep.fv:∀ {d:D} {v:V},Rep K F d v→∀ {q:Addr},q∈fv d→∃ o,F q=some o
 | .cel p xs,v,⟨_,vs,h2,h3⟩,q,h=>by
  rcases List.mem_cons.mp h with rfl | h
  ·exact⟨_,h2⟩
  ·exact ax.fv h3 h
 | .lst xs,v,⟨p,vs,_,_,h3⟩,q,h=>ax.fv h3 h
 | .tup xs,v,⟨p,vs,_,_,h3⟩,q,h=>ax.fv h3 h
 | .ktup xs,v,⟨p,vs,_,_,h3⟩,q,h=>ax.fv h3 h
 | .ins _ _ xs,v,⟨p,dx,gs,_,_,_,h3⟩,q,h=>ax.fv h3 h
 | .non,_,_,_,h=>nomatch h
 | .bl _,_,_,_,h=>nomatch h
 | .int _,_,_,_,h=>nomatch h
 | .str _,_,_,_,h=>nomatch h
 | .scr _,_,_,_,h=>nomatch h
 | .ty _,_,_,_,h=>nomatch h
 | .adr _,_,_,_,h=>nomatch h
theorem ax.fv:∀ {xs:List D} {vs:List V},ax K F xs vs→∀ {q:Addr},q∈gI xs→∃ o,F q=some o
 | [],_,_,_,h=>nomatch h
 | x::xs,_,⟨v,ws,_,h1,h2⟩,q,h=>by
  rcases List.mem_append.mp h with h | h
  ·exact Rep.fv h1 h
  ·exact ax.fv h2 h
end
theorem vz {p:Addr}:∀ {d:D},Own K F H p d→∀ {q:Addr},q∈L3.fv d→∃ o,F q=some o
 | .lst xs,⟨vs,_,h3⟩,q,h=>ax.fv h3 h
 | .ins _ _ xs,⟨dx,gs,_,_,h3⟩,q,h=>ax.fv h3 h
theorem oN:∀ {Γ:G} {q:Addr},q∈hU Γ→∃ (i:Nat) (s:Sl),Γ[i]?=some (some s)∧q∈fv s.d
 | [],_,h=>nomatch h
 | none::Γ,q,h=>by
  obtain⟨i,s,a,b⟩:=oN (Γ:=Γ) h
  exact⟨i + 1,s,by simpa using a,b⟩
 | some s::Γ,q,h=>by
  rcases List.mem_append.mp h with h | h
  ·exact⟨0,s,rfl,h⟩
  ·obtain⟨i,s,a,b⟩:=oN (Γ:=Γ) h
   exact⟨i + 1,s,by simpa using a,b⟩
theorem En.fv (e:En K B F σ H Γ) {q:Addr} (h:q∈hU Γ):∃ o,F q=some o:=by
 obtain⟨i,s,a,b⟩:=oN h
 cases s with
 | fz d=>obtain⟨v,_,r⟩:=e.fz i d a;exact r.fv b
 | ow d=>obtain⟨p,_,_,r⟩:=e.hl i d (.inl a);exact vz r b
 | ln d=>obtain⟨p,_,_,r⟩:=e.hl i d (.inr a);exact vz r b
theorem En.Dd (e:En K B F σ H Γ) {p:Addr} (h:F p=none):p∉hU Γ:=fun q=>by
 obtain⟨o,ho⟩:=e.fv q
 rw[h] at ho;cases ho
def Bs.hid (B:Bs) (p:Addr) (o:HO):Bs:=⟨B.F,upd B.H p o,B.own⟩
theorem En.hide (e:En K B F σ H Γ) {p:Addr} {o:HO} (hF:F p=none) (hH:H p=some o) (hn:∀ (i:Nat) (d:D),Hld Γ i d→σ[i]?≠some (some (V.ref p))):En K (B.hid p o) F σ H Γ where
 sub:=e.sub
 len:=e.len
 fz:=e.fz
 hl:=e.hl
 ow:=fun i d p' h a=>by
  have z:p'≠p:=fun z=>hn i d (.inl h) (z ▸ a)
  show upd B.H p o p'=none
  rw[aj z];exact e.ow i d p' h a
 ln:=e.ln
 dis:=e.dis
 par:=e.par
 keep:=e.keep
 new:=fun b u h=>by
  rcases e.new b u h with q | q
  ·exact .inl q
  ·have z:b≠p:=fun z=>by subst z;rw[hF] at h;cases h
   exact .inr (by show upd B.H p o b=none;rw[aj z];exact q)
 rest:=fun b u h n=>by
  by_cases z:b=p
  ·subst z
   have h:upd B.H b o b=some u:=h
   rw[aC] at h;cases h;exact hH
  ·have h:upd B.H p o b=some u:=h
   rw[aj z] at h;exact e.rest b u h n
 dom:=fun b h=>by
  have z:b≠p:=fun z=>by subst z;rw[hH] at h;cases h
  show upd B.H p o b=none
  rw[aj z];exact e.dom b h
theorem En.zQ {p:Addr} {o:HO} (e:En K (B.hid p o) F σ H Γ) (hB:B.H p=none) (hF:B.F p=none) (hn:∀ i,(i,p)∉B.own) :
  En K B F σ H Γ∧H p=some o∧F p=none∧∀ (i:Nat) (d:D),Hld Γ i d→σ[i]?≠some (some (V.ref p)):=by
 have at_p:(B.hid p o).H p=some o:=aC
 have ne:∀ {b:Addr},b≠p→(B.hid p o).H b=B.H b:=fun z=>aj z
 have un:∀ {b:Addr},(B.hid p o).H b=none→B.H b=none:=fun {b} h=>by
  have z:b≠p:=fun z=>by subst z;rw[at_p] at h;cases h
  rw[← ne z];exact h
 refine⟨⟨e.sub,e.len,e.fz,e.hl,fun i d q h a=>un (e.ow i d q h a),e.ln,e.dis,e.par,e.keep,fun b u h=>(e.new b u h).imp id un,fun b u h n=>e.rest b u ?_ n,fun b h=>un (e.dom b h)⟩,e.rest p o at_p hn,?_,fun i d h a=>?_⟩
 ·have z:b≠p:=fun z=>by subst z;rw[hB] at h;cases h
  rw[ne z];exact h
 ·cases q:F p with
  | none=>rfl
  | some u=>
   rcases e.new p u q with z | z
   ·rw[show (B.hid p o).F p=B.F p from rfl,hF] at z;cases z
   ·rw[at_p] at z;cases z
 ·rcases h with h | h
  ·have z:=e.ow i d p h a
   rw[at_p] at z;cases z
  ·exact hn i (e.ln i d p h a)
def frL (r:RV) (k:List D→Prop):Prop:=match r with
 | .fr (.lst xs)=>k xs
 | _=>False
theorem oB {r:RV} {k:List D→Prop} (h:frL r k):∃ xs,r=.fr (.lst xs)∧k xs:=by
 cases r with
 | fz d=>exact h.elim
 | two _ _=>exact h.elim
 | fr d=>cases d <;> first | exact h.elim | exact⟨_,rfl,h⟩
def ED (a3 b3:TE3) (Γ:G) (Q:RV→G→Prop):Prop:=a3 Γ fun r Γ1=>frL r fun xs=>b3 Γ1 fun r' Γ2=>frL r' fun ys=>Q (.two xs ys) Γ2
variable {a b:Expr} {ta tb:TE} {a3 b3:TE3} {pos:Pos}
theorem AG {x1} (ha:P3 K X a ta a3) (hb:P3 K X b tb b3) (hs:starEach [a,b] X.env=(false,eval a X.env)::starEach [b] X.env:=by rfl) (hs2:starEach [b] X.env=(false,eval b X.env)::starEach [] X.env:=by rfl):P3 K X (.Tuple [a,b] x1 pos) (Cg (iN ta (iN tb mM))) (ED a3 b3):=⟨wX (f_ ha.pe (f_ hb.pe lY hs2) hs),by
 intro B F σ H Γ Q QQ e q k
 refine ha.rf B F σ H Γ _ _ e q fun v H1 ⟨F1,Γ1,r,s1,e1,rv,q1⟩=>?_
 obtain⟨xs,rfl,q1⟩:=oB q1
 obtain⟨p,rfl,f1,⟨vs,h1,r1⟩,b1,n1⟩:=rv
 have bf:B.F p=none:=by
  cases z:B.F p with
  | none=>rfl
  | some o=>have:=e1.keep _ _ z;rw[f1] at this;cases this
 have no:∀ i,(i,p)∉B.own:=fun i z=>by
  obtain⟨x,d,y⟩:=e1.par i p z
  exact n1 i d (.inr y) x
 refine hb.rf (B.hid p (.lst vs)) F1 σ H1 Γ1 _ _ (e1.hide f1 h1 n1) q1 fun w H2 ⟨F2,Γ2,r',s2,e2,rv2,q2⟩=>?_
 obtain⟨ys,rfl,q2⟩:=oB q2
 obtain⟨q',rfl,f2,⟨ws,h2,r2⟩,b2,n2⟩:=rv2
 have ne:q'≠p:=fun z=>by
  have b2:upd B.H p (.lst vs) q'=none:=b2
  rw[z,aC] at b2;cases b2
 have b2':B.H q'=none:=by
  have b2:upd B.H p (.lst vs) q'=none:=b2
  rw[aj ne] at b2;exact b2
 obtain⟨e3,h3,f3,n3⟩:=e2.zQ b1 bf no
 refine⟨by show 2≤sizeLine;rw[sizeLine_eq];omega,fun l hl=>k _ _ ⟨F2,Γ2,.two xs ys,s1.trans s2,e3.alloc hl _,⟨l,p,q',vs,ws,rfl,aC,?_,?_,r1.mono s2,r2,Ne.symm ne,fun z hz=>?_⟩,q2⟩⟩
 ·rw[aj (bx h3 hl)];exact h3
 ·rw[aj (bx h2 hl)];exact h2
 ·rcases hz with rfl | rfl | rfl
  ·exact⟨e3.nof hl,e3.dom _ hl,e3.vE hl⟩
  ·exact⟨f3,b1,n3⟩
  ·exact⟨f2,b2',n2⟩⟩
def GC (r:RV) (k:List D→List D→Prop):Prop:=match r with
 | .two xs ys=>k xs ys
 | _=>False
def DY (i j:Nat) (e3:TE3) (D:E3) (Γ:G):Prop:=e3 Γ fun r Γ1=>GC r fun xs ys=>∀ p q,p≠q→p∉hU Γ1→q∉hU Γ1→cK Γ1 i∧cK (Γ1.set i (some (.fz (.cel p xs)))) j∧D.nx ((Γ1.set i (some (.fz (.cel p xs)))).set j (some (.fz (.cel q ys))))
theorem Cq {es:List Expr} {kt:Nat} {pt:Pos} {i j:Nat} {e:Expr} {te:TE} {e3:TE3} (hK:X.K=K) (he:P3 K X e te e3) (hg:PGs X es (ky [i,j])) (hc:X.calm=true) (hn:(assignEach es X.env).length=2:=by rfl) (hst:(assignEach es X.env).findIdx? (·.1)=none:=by rfl)
  (hs:swapsWithSole [.Tuple es kt pt] e pos.line X.env=pure false:=by rfl) (hw:swappedStores [.Tuple es kt pt] e X.env=pure none:=by rfl) (h1:(assignEach [.Tuple es kt pt] X.env).map (·.2)=[assign (.Tuple es kt pt) X.env]:=by rfl) :
  P3S K X (.Assign [.Tuple es kt pt] e pos) (pN te (Dv K 2 (ky [i,j]))) (DY i j e3):=⟨by subst hK;exact wU he.pe (wW hc hg hn hst) hs hw h1,fun B F σ H Γ D D3 e k q=>
 he.rf B F σ H Γ _ _ e q fun v H' ⟨F',Γ',r,s,e',rv,q'⟩=>by
  cases r with
  | fz _=>exact q'.elim
  | fr _=>exact q'.elim
  | two xs ys=>
   obtain⟨t,p,q1,vs,ws,rfl,h1,h2,h3,h4,h5,h6,h7⟩:=rv
   obtain⟨b1,b2,b3⟩:=h7 p (.inr (.inl rfl))
   obtain⟨c1,c2,c3⟩:=h7 q1 (.inr (.inr rfl))
   obtain⟨f1,f2,qn⟩:=q' p q1 h6 (e'.Dd b1) (e'.Dd c1)
   have e1:=e'.freeze b1 h2 b2 b3
   have g2:upd F' p (.lst vs) q1=none:=by rw[aj (Ne.symm h6)];exact c1
   have e2:=e1.freeze g2 h3 c2 c3
   have s1:=bQ (o:=.lst vs) b1
   have s2:=bQ (o:=.lst ws) g2
   have rl:ax K (upd (upd F' p (.lst vs)) q1 (.lst ws)) [.cel p xs,.cel q1 ys] [.ref p,.ref q1]:=
    ⟨_,_,rfl,⟨rfl,vs,by rw[aj h6];exact aC,h4.mono (s1.trans s2)⟩,_,_,rfl,⟨rfl,ws,aC,h5.mono (s1.trans s2)⟩,rfl⟩
   refine⟨t,[.ref p,.ref q1],rfl,.inl (.inl h1),rfl,mj (is:=[i,j]) e2 rl rfl ⟨f1,f2,trivial⟩ fun σ' e3=>k.nx _ σ' _ _ ((s.trans s1).trans s2) e3 qn⟩⟩
def tw (i:Nat) (Γ:G) (Q:RV→G→Prop):Prop:=match Γ[i]? with
 | some (some (.fz (.cel _ xs)))=>Q (.fz (.lst xs)) Γ
 | _=>False
theorem Aj (i:Nat):Ref K (fH i) (tw i):=by
 intro B F σ H Γ Q QQ e h k
 unfold tw at h
 split at h
 ·rename_i p xs q
  obtain⟨v,h1,rfl,vs,h2,h3⟩:=e.fz i _ q
  exact⟨_,h1,k _ _ (iT (d:=.lst xs) e ⟨p,vs,rfl,h2,h3⟩ h)⟩
 ·exact h.elim
def tu (i:Nat) (Γ:G) (Q:RV→G→Prop):Prop:=match Γ[i]? with
 | some (some (.ow (.lst xs)))=>∀ p,p∉hU Γ→Q (.fz (.cel p xs)) (Γ.set i (some (.fz (.cel p xs))))
 | _=>False
theorem En.name (e:En K B F σ H Γ) {i:Nat} {xs:List D} (h:Γ[i]?=some (some (Sl.ow (.lst xs)))):∃ F' p,aP F F'∧F p=none∧σ[i]?=some (some (V.ref p))∧Rep K F' (.cel p xs) (.ref p)∧En K B F' σ H (Γ.set i (some (Sl.fz (.cel p xs)))):=by
 obtain⟨p0,a0,f0,_⟩:=e.hl i _ (.inl h)
 obtain⟨F',p,s,h1,⟨p',vs,h2,h3,h4⟩,e'⟩:=e.give h
 rw[a0] at h1;cases h1
 cases h2
 have il:i < Γ.length:=(List.getElem?_eq_some_iff.mp h).1
 refine⟨F',p0,s,f0,a0,⟨rfl,vs,h3,h4⟩,?_⟩
 have hl':∀ {j:Nat} {d:D},Hld (Γ.set i (some (Sl.fz (.cel p0 xs)))) j d→Hld (Γ.set i (some (Sl.fz (.lst xs)))) j d:=fun {j d} q=>by
  by_cases z:j=i
  ·subst z;rcases q with q | q <;> rw[aE il] at q <;> cases q
  ·unfold Hld at q ⊢;rw[bJ (Ne.symm z)] at q ⊢;exact q
 have gt:∀ {j:Nat} {u:Option (Option Sl)},j≠i→(Γ.set i (some (Sl.fz (.cel p0 xs))))[j]?=u→(Γ.set i (some (Sl.fz (.lst xs))))[j]?=u:=fun {j u} z q=>by rw[bJ (Ne.symm z)] at q ⊢;exact q
 refine⟨e'.sub,by have:=e'.len;rw[List.length_set] at this ⊢;exact this,fun j d q=>?_,fun j d q=>e'.hl j d (hl' q),fun j d p q a=>?_,fun j d p q a=>?_,fun j k d d' p q1 q2=>e'.dis j k d d' p (hl' q1) (hl' q2),fun j p q=>?_,e'.keep,e'.new,e'.rest,e'.dom⟩
 ·by_cases z:j=i
  ·subst z;rw[aE il] at q;cases q;exact⟨_,a0,rfl,vs,h3,h4⟩
  ·exact e'.fz j d (gt z q)
 ·by_cases z:j=i
  ·subst z;rw[aE il] at q;cases q
  ·exact e'.ow j d p (gt z q) a
 ·by_cases z:j=i
  ·subst z;rw[aE il] at q;cases q
  ·exact e'.ln j d p (gt z q) a
 ·obtain⟨x,d,y⟩:=e'.par j p q
  have z:j≠i:=fun z=>by subst z;rw[aE il] at y;cases y
  exact⟨x,d,by rw[bJ (Ne.symm z)] at y ⊢;exact y⟩
theorem Ai (i:Nat):Ref K (fH i) (tu i):=by
 intro B F σ H Γ Q QQ e h k
 unfold tu at h
 split at h
 ·rename_i xs q
  obtain⟨F',p,s,f0,a0,r,e'⟩:=e.name q
  exact⟨_,a0,k _ _ ⟨F',_,.fz (.cel p xs),s,e',r,h p (e.Dd f0)⟩⟩
 ·exact h.elim
theorem pS (i:Nat) {x:Str} {pos:Pos} (hN:X.N[i]?=some x:=by rfl) (hv:Vis X.env.scope x:=by first | exact Or.inl rfl | exact Or.inr (Or.inl rfl) | exact Or.inr (Or.inr rfl)) (hd:(x == ("__debug__":Str))=false:=by decide)
  (hcd:(x == ("__classdict__":Str))=false:=by decide):P3 K X (.Name x pos) (fH i) (tw i):=⟨qy hN hv hd hcd,Aj i⟩
theorem IU (i:Nat) {x:Str} {pos:Pos} (hN:X.N[i]?=some x:=by rfl) (hv:Vis X.env.scope x:=by first | exact Or.inl rfl | exact Or.inr (Or.inl rfl) | exact Or.inr (Or.inr rfl)) (hd:(x == ("__debug__":Str))=false:=by decide)
  (hcd:(x == ("__classdict__":Str))=false:=by decide):P3 K X (.Name x pos) (fH i) (tu i):=⟨qy hN hv hd hcd,Ai i⟩
def nm3 (a3:TE3) (Γ:G) (Q:RV→G→Prop):Prop:=a3 Γ fun r Γ1=>frL r fun xs=>∀ p,p∉hU Γ1→Q (.fz (.cel p xs)) Γ1
theorem Hb (ha:P3 K X a ta a3):P3 K X a ta (nm3 a3):=⟨ha.pe,by
 intro B F σ H Γ Q QQ e q k
 refine ha.rf B F σ H Γ _ _ e q fun v H1 ⟨F1,Γ1,r,s1,e1,rv,q1⟩=>?_
 obtain⟨xs,rfl,q1⟩:=oB q1
 obtain⟨p,rfl,f1,⟨vs,h1,r1⟩,b1,n1⟩:=rv
 exact k _ _ ⟨upd F1 p (.lst vs),Γ1,.fz (.cel p xs),s1.trans (bQ f1),e1.freeze f1 h1 b1 n1,⟨rfl,vs,aC,r1.mono (bQ f1)⟩,q1 p (e1.Dd f1)⟩⟩
def iT3 (a3:TE3) (Γ:G) (Q:List D→G→Prop):Prop:=a3 Γ fun r Γ1=>∃ xs,r.d=.tup xs∧Q xs Γ1
theorem FW {tg l:Expr} {tl:TE} {l3:TE3} (hK:X.K=K) (h:P3 K X l tl l3):P3I K X tg l (Hv K tl) (iT3 l3):=⟨by subst hK;exact Fc h.pe,fun B F σ H Γ Q R e q k=>
 h.rf B F σ H Γ _ _ e q fun v H' ⟨F',Γ',r,s,e',rv,xs,hx,q'⟩=>by
  obtain⟨F2,s2,e2,r2⟩:=e'.frozen rv
  rw[hx] at r2
  obtain⟨p,vs,rfl,h1,h2⟩:=r2
  refine⟨p,rfl,⟨vs,SqT.of (e2.sub _ _ h1)⟩,k _ H' F2 Γ' xs (s.trans s2) e2 ⟨fun i H'' sm lt=>?_,fun i H'' sm ei=>?_,fun i H'' x H3 d sm hd y=>?_⟩ q'⟩
  ·rw[← h2.length] at lt
   exact⟨vs,vs[i],SqT.of (sm _ _ h1),by simp [lt]⟩
  ·exact⟨vs,SqT.of (sm _ _ h1),by rw[h2.length];omega⟩
  ·obtain⟨e1,y⟩:=y
   obtain⟨d',hd',r⟩:=h2.Du (y vs (SqT.of (sm _ _ h1)))
   rw[hd] at hd';cases hd'
   exact .inl ⟨e1,r⟩⟩
end
end L3
namespace L3
open PySem L2 PySem.Spec PyProof.Rows
mutual
def pin:D→Bool
 | .cel _ xs=>iU xs
 | .tup xs=>iU xs
 | .ins _ _ xs=>iU xs
 | .lst _=>false
 | .ktup _=>false
 | .scr _=>false
 | .non=>true
 | .bl _=>true
 | .int _=>true
 | .str _=>true
 | .ty _=>true
 | .adr _=>true
def iU:List D→Bool
 | []=>true
 | x::xs=>pin x && iU xs
end
mutual
def clr (p:Addr):D→D
 | .cel q xs=>if q=p then .cel q [] else .cel q (h_ p xs)
 | .tup xs=>.tup (h_ p xs)
 | .ins C ns xs=>.ins C ns (h_ p xs)
 | .non=>.non
 | .bl b=>.bl b
 | .int i=>.int i
 | .str s=>.str s
 | .ty n=>.ty n
 | .adr a=>.adr a
 | .lst xs=>.lst xs
 | .ktup xs=>.ktup xs
 | .scr ns=>.scr ns
def h_ (p:Addr):List D→List D
 | []=>[]
 | x::xs=>clr p x::h_ p xs
end
section
variable {K:PySem.W.Frag} {B:Bs} {F:Hp} {σ:L2.St} {H:Hp} {Γ:G} {X:Cx} {p:Addr}
mutual
theorem Rep.clr {ws:List V} (hp:F p=some (.lst ws)):∀ {d:D} {v:V},Rep K F d v→pin d=true→Rep K (upd F p (.lst [])) (clr p d) v
 | .cel q xs,v,h,hd=>by
  rw[pin] at hd
  rw[L3.clr]
  rw[Rep] at h
  obtain⟨h1,vs,h2,h3⟩:=h
  by_cases z:q=p
  ·subst z
   rw[if_pos rfl,Rep]
   exact⟨h1,[],aC,by rw[ax]⟩
  ·rw[if_neg z,Rep]
   exact⟨h1,vs,by rw[aj z];exact h2,ax.clr hp h3 hd⟩
 | .tup xs,v,h,hd=>by
  rw[pin] at hd
  rw[L3.clr,Rep]
  rw[Rep] at h
  obtain⟨q,vs,h1,h2,h3⟩:=h
  exact⟨q,vs,h1,by rw[aj (fun z=>by rw[z,hp] at h2;cases h2)];exact h2,ax.clr hp h3 hd⟩
 | .ins C ns xs,v,h,hd=>by
  rw[pin] at hd
  rw[L3.clr,Rep]
  rw[Rep] at h
  obtain⟨q,dx,gs,h1,h2,h3,h4⟩:=h
  exact⟨q,dx,gs,h1,by rw[aj (fun z=>by rw[z,hp] at h2;cases h2)];exact h2,h3,ax.clr hp h4 hd⟩
 | .non,v,h,_=>by rw[L3.clr,Rep];rw[Rep] at h;exact h
 | .bl _,v,h,_=>by rw[L3.clr,Rep];rw[Rep] at h;exact h
 | .int _,v,h,_=>by rw[L3.clr,Rep];rw[Rep] at h;exact h
 | .str _,v,h,_=>by rw[L3.clr,Rep];rw[Rep] at h;exact h
 | .ty _,v,h,_=>by rw[L3.clr,Rep];rw[Rep] at h;exact h
 | .adr _,v,h,_=>by rw[L3.clr,Rep];rw[Rep] at h;exact h
 | .lst _,v,h,hd=>by rw[pin] at hd;cases hd
 | .ktup _,v,h,hd=>by rw[pin] at hd;cases hd
 | .scr _,v,h,hd=>by rw[pin] at hd;cases hd
theorem ax.clr {ws:List V} (hp:F p=some (.lst ws)):∀ {xs:List D} {vs:List V},ax K F xs vs→iU xs=true→ax K (upd F p (.lst [])) (h_ p xs) vs
 | [],vs,h,_=>by rw[h_,ax];rw[ax] at h;exact h
 | x::xs,vs,h,hd=>by
  rw[iU,Bool.and_eq_true] at hd
  rw[h_,ax]
  rw[ax] at h
  obtain⟨v,us,h1,h2,h3⟩:=h
  exact⟨v,us,h1,Rep.clr hp h2 hd.1,ax.clr hp h3 hd.2⟩
end
def qW (p:Addr):Option Sl→Option Sl
 | some (.ow (.lst xs))=>some (.ow (.lst (h_ p xs)))
 | some (.ln (.lst xs))=>some (.ln (.lst (h_ p xs)))
 | _=>none
def p5 (p:Addr):G→G
 | []=>[]
 | s::Γ=>qW p s::p5 p Γ
def E_:Option Sl→Prop
 | some (.ow (.lst xs))=>iU xs=true
 | some (.ln (.lst xs))=>iU xs=true
 | some (.ow _)=>False
 | some (.ln _)=>False
 | _=>True
def xS:G→Prop
 | []=>True
 | s::Γ=>E_ s∧xS Γ
theorem qX:∀ {Γ:G} {i:Nat},(p5 p Γ)[i]?=Γ[i]?.map (qW p)
 | [],i=>by simp [p5]
 | s::Γ,0=>rfl
 | s::Γ,i + 1=>by simpa [p5] using qX (Γ:=Γ) (i:=i)
theorem v5:∀ {Γ:G},(p5 p Γ).length=Γ.length
 | []=>rfl
 | s::Γ=>by simp [p5,v5 (Γ:=Γ)]
theorem xS.get:∀ {Γ:G} {i:Nat} {s:Option Sl},xS Γ→Γ[i]?=some s→E_ s
 | [],i,s,_,e=>by simp at e
 | x::Γ,0,s,h,e=>by simp at e;subst e;exact h.1
 | x::Γ,i + 1,s,h,e=>xS.get (Γ:=Γ) (i:=i) h.2 (by simpa using e)
theorem BK {s:Option Sl} {d:D} (h:qW p s=some (.ow d)):∃ xs,s=some (.ow (.lst xs))∧d=.lst (h_ p xs):=by
 unfold qW at h
 split at h
 ·cases h;exact⟨_,rfl,rfl⟩
 ·cases h
 ·cases h
theorem BL {s:Option Sl} {d:D} (h:qW p s=some (.ln d)):∃ xs,s=some (.ln (.lst xs))∧d=.lst (h_ p xs):=by
 unfold qW at h
 split at h
 ·cases h
 ·cases h;exact⟨_,rfl,rfl⟩
 ·cases h
theorem Gf {s:Option Sl} {d:D} (h:qW p s=some (.fz d)):False:=by
 unfold qW at h
 split at h <;> cases h
theorem nJ {i:Nat} {s:Sl} (h:(p5 p Γ)[i]?=some (some s)):∃ u,Γ[i]?=some u∧qW p u=some s:=by
 rw[qX] at h
 cases q:Γ[i]? with
 | none=>rw[q] at h;cases h
 | some u=>rw[q] at h;exact⟨u,rfl,by simpa using h⟩
theorem uJ {i:Nat} {d:D} (h:Hld (p5 p Γ) i d):∃ xs,Hld Γ i (.lst xs)∧d=.lst (h_ p xs):=by
 rcases h with h | h
 ·obtain⟨u,a,b⟩:=nJ h
  obtain⟨xs,rfl,rfl⟩:=BK b
  exact⟨xs,.inl a,rfl⟩
 ·obtain⟨u,a,b⟩:=nJ h
  obtain⟨xs,rfl,rfl⟩:=BL b
  exact⟨xs,.inr a,rfl⟩
theorem En.clr (e:En K B F σ H Γ) (hB:∀ x,B.F x=none) {ws:List V} (hp:F p=some (.lst ws)) (pg:xS Γ):En K B (upd F p (.lst [])) σ (upd H p (.lst [])) (p5 p Γ) where
 sub:=fun b u h=>by
  by_cases z:b=p
  ·subst z;rw[aC] at h ⊢;exact h
  ·rw[aj z] at h ⊢;exact e.sub b u h
 len:=by rw[v5];exact e.len
 fz:=fun i d h=>by
  obtain⟨u,a,b⟩:=nJ h
  exact(Gf b).elim
 hl:=fun i d h=>by
  obtain⟨xs,a,rfl⟩:=uJ h
  obtain⟨q,x,f,vs,y,z⟩:=e.hl i _ a
  have ne:q≠p:=fun w=>by rw[w,hp] at f;cases f
  have pn:iU xs=true:=by
   rcases a with a | a <;> exact pg.get a
  exact⟨q,x,by rw[aj ne];exact f,vs,by rw[aj ne];exact y,ax.clr hp z pn⟩
 ow:=fun i d q h a=>by
  obtain⟨u,x,b⟩:=nJ h
  obtain⟨xs,rfl,rfl⟩:=BK b
  exact e.ow i _ q x a
 ln:=fun i d q h a=>by
  obtain⟨u,x,b⟩:=nJ h
  obtain⟨xs,rfl,rfl⟩:=BL b
  exact e.ln i _ q x a
 dis:=fun i j d d' q h1 h2 a1 a2=>by
  obtain⟨xs,x,rfl⟩:=uJ h1
  obtain⟨ys,y,rfl⟩:=uJ h2
  exact e.dis i j _ _ q x y a1 a2
 par:=fun i q h=>by
  obtain⟨x,d,y⟩:=e.par i q h
  have pn:=pg.get y
  cases d with
  | lst xs=>exact⟨x,_,by rw[qX,y];rfl⟩
  | _=>exact pn.elim
 keep:=fun b u h=>by rw[hB b] at h;cases h
 new:=fun b u h=>by
  by_cases z:b=p
  ·subst z
   rcases e.new _ _ hp with q | q
   ·rw[hB] at q;cases q
   ·exact .inr q
  ·rw[aj z] at h;exact e.new b u h
 rest:=fun b u h n=>by
  have z:b≠p:=fun z=>by
   subst z
   rcases e.new _ _ hp with q | q
   ·rw[hB] at q;cases q
   ·rw[q] at h;cases h
  rw[aj z];exact e.rest b u h n
 dom:=fun b h=>by
  by_cases z:b=p
  ·subst z;rw[aC] at h;cases h
  ·rw[aj z] at h;exact e.dom b h
def Ig (K:PySem.W.Frag) (t:TS) (t3:TS3):Prop:=∀ (B:Bs),(∀ x,B.F x=none)→∀ (F:Hp) (σ:L2.St) (H:Hp) (Γ:G) (D:Ends) (D3:E3),En K B F σ H Γ→wC K B B.F D D3→t3 D3 Γ→t D σ H
structure yO (K:PySem.W.Frag) (X:Cx) (st:List Stmt) (t:TS) (t3:TS3):Prop where
 pe:PSs X st t
 rf:Ig K t t3
variable {st:Stmt} {rest:List Stmt} {t u:TS} {t3 u3:TS3}
theorem mS (h1:P3S K X st t t3) (h2:yO K X rest u u3):yO K X (st::rest) (Ci t u) (z_ t3 u3):=⟨qu h1.pe h2.pe,fun B hB F σ H Γ D D3 e k q=>
 h1.rf B F σ H Γ _ { D3 with nx:=u3 D3 } e ⟨fun F' σ' H' Γ' s e' q'=>h2.rf B hB F' σ' H' Γ' _ D3 e' k q',fun F' σ' H' Γ' v r s e'=>k.rt F' σ' H' Γ' v r e'.keep e',fun F' σ' H' Γ' s e'=>k.bk F' σ' H' Γ' e'.keep e',fun F' σ' H' Γ' s e'=>k.ct F' σ' H' Γ' e'.keep e'⟩ q⟩
def Gi (r:RV) (k:Addr→Prop):Prop:=match r with
 | .fz (.cel p _)=>k p
 | _=>False
theorem Dy {r:RV} {k:Addr→Prop} (h:Gi r k):∃ p xs,r=.fz (.cel p xs)∧k p:=by
 cases r with
 | fr _=>exact h.elim
 | two _ _=>exact h.elim
 | fz d=>cases d <;> first | exact h.elim | exact⟨_,_,rfl,h⟩
def HL (o3:TE3) (D:E3) (Γ:G):Prop:=o3 Γ fun r Γ1=>Gi r fun p=>xS Γ1∧D.nx (p5 p Γ1)
theorem EW {o:Expr} {to:TE} {o3:TE3} {apos cpos pos:Pos} (hK:X.K=K) (ho:P3 K X o to o3) (h2:uX K X rest u u3) (hbase:attributeBase o "clear" X.env (eval o X.env)=eval o X.env:=by rfl) (hline:(apos.endLine == cpos.line)=true:=by rfl)
  (hs:swapsWith (.Call (.Attribute o "clear" apos) [] [] cpos) none pos.line X.env=pure false:=by rfl) :
  yO K X (.Expr (.Call (.Attribute o "clear" apos) [] [] cpos) pos::rest) (Ci (zZ (GN K "list" As to)) u) (z_ (HL o3) u3):=
 ⟨qu (x_ (by subst hK;exact Fj PySem.F.plainAttrs_list PySem.F.slot_list_clear PySem.F.type_list_clear AX ho.pe hbase hline) hs) h2.pe,fun B hB F σ H Γ D D3 e k q=>
  ho.rf B F σ H Γ _ _ e q fun v H1 ⟨F1,Γ1,r,s1,e1,rv,q1⟩=>by
   obtain⟨p,xs,rfl,pg,q1⟩:=Dy q1
   obtain⟨rfl,vs,h1,h2'⟩:=rv
   have hp:=e1.sub _ _ h1
   have e2:=e1.clr hB h1 pg
   exact⟨tj hp,p,vs,rfl,rfl,hp,h2.rf B _ σ _ _ D D3 e2 (k.mono e2.keep) q1⟩⟩
end
def ue:Hp:=fun _=>none
def EJ (K:PySem.W.Frag) (n:Nat) (S:S3):Sp:=fun vs H Q _=>vs.length=n∧∃ own Γa Q3,En K ⟨ue,H,own⟩ ue (vs.map some) H Γa∧(∀ (k:Nat) (d:D),Γa[k]?≠some (some (Sl.ow d)))∧S Γa Q3∧∀ r Γ',Q3 r Γ'→∀ v H' F',En K ⟨ue,H,own⟩ F' (vs.map some) H' Γ'→lM K ⟨ue,H,own⟩ F' (vs.map some) H' Γ' v r→Q v H'
section
variable {P:Program} {w:World} {K:PySem.W.Frag} {mg:Str→Option Value} {base:Heap}
theorem IV {x qual:Str} {st:Stmt} {f:Addr} {fd:FuncData} {N ps:List Str} {k:Nat} {S:S3} (F:Fun K x qual st f fd) (Sc:aw N ps (ab st)) (hN:ps.length≤N.length:=by decide)
  (hbody:∀ (cdv:Value) (A:Around) (outer:List Env) (s:Shared) (H:Hp) (E:XK),dQ k (A.deeper (envOfC qual (ab st) s.heap.objs.size f cdv))→
   ∃ t t3,yO K (vW CX0 P w K mg base N qual (ab st) f cdv A outer s H E).nox (ah st) t t3∧∀ Γa Q,S Γa Q→Γa.length=ps.length→t3 { nx:=fun Γ'=>Q (.fz .non) (iV Γa Γ'),rt:=fun r Γ'=>Q r (iV Γa Γ') } (gP N Γa)) :
  aY P w K mg base CX0 (k + 1) f fd ps (EJ K ps.length S):=by
 refine F.ok Sc (fun vs H Q E h=>h.1) fun cdv A outer s H vs Q E hr h=>?_
 obtain⟨hl,own,Γa,Q3,e,hno,hS,hQ⟩:=h
 obtain⟨t,t3,ht,rd⟩:=hbody cdv A outer s H E hr
 have hla:Γa.length=ps.length:=by rw[← e.len,List.length_map];exact hl
 refine⟨t,ht.pe,ht.rf ⟨ue,H,own⟩ (fun _=>rfl) ue _ H _ _ { nx:=fun Γ'=>Q3 (.fz .non) (iV Γa Γ'),rt:=fun r Γ'=>Q3 r (iV Γa Γ') } (e.start (N:=N) (by rw[hla];exact hN)) ⟨?_,?_,fun _ _ _ _ _ _ z=>False.elim z,fun _ _ _ _ _ _ z=>False.elim z⟩ (rd Γa Q3 hS hla)⟩
 ·intro F' σ' H' Γ' s' e' q
  obtain⟨a,b⟩:=e.out hno e' (v:=.non) (r:=.fz .non) rfl
  exact hQ _ _ q _ _ _ a b
 ·intro F' σ' H' Γ' v r s' e' rv q
  obtain⟨a,b⟩:=e.out hno e' rv
  exact hQ _ _ q _ _ _ a b
end
end L3
namespace L3
open PySem L2 PySem.Spec PyProof.Rows
def kpE (f:List Int→Sl) (C:List Int→Str→List Int→Prop) (R:List Int→List Int→Prop):S3:=fun Γ Q=>∃ (bs:List Int) (z:Str) (ns:List Int),Γ=[some (.ln (.lst (bs.map .int))),some (.fz (.str z)),some (f ns)]∧C bs z ns∧∀ bs',R bs bs'→Q (.fz (.bl true)) [some (.ln (.lst (bs'.map .int))),some (.fz (.str z)),some (f ns)]
section
variable {P:Program} {w:World} {K:PySem.W.Frag} {mg:Str→Option Value} {base:Heap}
theorem Hk {k:Nat} {f:Addr} {fd:FuncData} {ps:List Str} {C:List Int→Str→List Int→Prop} {R:List Int→List Int→Prop} (F:aY P w K mg base CX0 k f fd ps (EJ K 3 (kpE (fun ns=>.ln (.lst (ns.map .int))) C R))):aY P w K mg base CX0 k f fd ps (sp3 K 3 (kpE (fun ns=>.fz (.lst (ns.map .int))) C R)):=by
 refine F.imp fun vs H Q E h=>?_
 obtain⟨hl,F0,own,Γa,Q3,e,hno,⟨bs,z,ns,rfl,hC,hq⟩,hQ⟩:=h
 obtain⟨v0,v1,v2,rfl⟩:∃ a b c,vs=[a,b,c]:=by
  match vs,hl with
  | [a,b,c],_=>exact⟨a,b,c,rfl⟩
 obtain⟨p0,a0,f0,us0,h0,r0⟩:=e.hl 0 _ (.inr rfl)
 have a0:some (some v0)=some (some (V.ref p0)):=a0
 cases a0
 have r0:=r0.gW
 subst r0
 have own0:=e.ln 0 _ p0 rfl rfl
 obtain⟨u1,a1,r1⟩:=e.fz 1 _ rfl
 have a1:some (some v1)=some (some u1):=a1
 cases a1
 have r1:v1=.str z:=r1
 subst r1
 obtain⟨u2,a2,p2,us2,rfl,f2,r2⟩:=e.fz 2 _ rfl
 have a2:some (some v2)=some (some (V.ref p2)):=a2
 cases a2
 have r2':=r2.gW
 subst r2'
 have h2:=e.sub _ _ f2
 have ne:p0≠p2:=fun z=>by rw[z,f2] at f0;cases f0
 have sl:∀ {i:Nat} {s:Sl} {x y t:Sl},[some x,some y,some t][i]?=some (some s)→(i=0∧s=x)∨(i=1∧s=y)∨(i=2∧s=t):=fun {i s x y t} h=>by
  match i,h with
  | 0,h=>cases h;exact .inl ⟨rfl,rfl⟩
  | 1,h=>cases h;exact .inr (.inl ⟨rfl,rfl⟩)
  | 2,h=>cases h;exact .inr (.inr ⟨rfl,rfl⟩)
  | n + 3,h=>simp at h
 have hd:∀ {i:Nat} {d:D} {xs ys:List D},Hld [some (Sl.ln (.lst xs)),some (Sl.fz (.str z)),some (Sl.ln (.lst ys))] i d→(i=0∧d=.lst xs)∨(i=2∧d=.lst ys):=fun {i d xs ys} h=>by
  rcases h with h | h <;> rcases sl h with ⟨rfl,q⟩ | ⟨rfl,q⟩ | ⟨rfl,q⟩ <;> cases q
  ·exact .inl ⟨rfl,rfl⟩
  ·exact .inr ⟨rfl,rfl⟩
 have hd1:∀ {i:Nat} {d:D} {xs:List D} {y:D},Hld [some (Sl.ln (.lst xs)),some (Sl.fz (.str z)),some (Sl.fz y)] i d→i=0∧d=.lst xs:=fun {i d xs y} h=>by
  rcases h with h | h <;> rcases sl h with ⟨rfl,q⟩ | ⟨rfl,q⟩ | ⟨rfl,q⟩ <;> cases q
  exact⟨rfl,rfl⟩
 have gt:∀ {i:Nat} {p:Addr},[some (V.ref p0),some (V.str z),some (V.ref p2)][i]?=some (some (V.ref p))→(i=0∧p=p0)∨(i=2∧p=p2):=fun {i p} h=>by
  match i,h with
  | 0,h=>cases h;exact .inl ⟨rfl,rfl⟩
  | 1,h=>cases h
  | 2,h=>cases h;exact .inr ⟨rfl,rfl⟩
  | n + 3,h=>simp at h
 have n0:∀ {b:Addr} {o:HO},ue b≠some o:=fun {b o} h=>by cases (show none=some o from h)
 have en:En K ⟨ue,H,[(0,p0),(2,p2)]⟩ ue ([V.ref p0,V.str z,V.ref p2].map some) H [some (.ln (.lst (bs.map .int))),some (.fz (.str z)),some (.ln (.lst (ns.map .int)))]:=by
  refine⟨fun b o h=>absurd h (n0 (b:=b)),rfl,?_,?_,?_,?_,?_,?_,fun b o h=>absurd h (n0 (b:=b)),fun b o h=>absurd h (n0 (b:=b)),fun b o h _=>h,fun b h=>h⟩
  ·intro i d h
   rcases sl h with ⟨rfl,q⟩ | ⟨rfl,q⟩ | ⟨rfl,q⟩ <;> cases q
   exact⟨_,rfl,rfl⟩
  ·intro i d h
   rcases hd h with ⟨rfl,rfl⟩ | ⟨rfl,rfl⟩
   ·exact⟨p0,rfl,rfl,_,h0,ax.ints bs⟩
   ·exact⟨p2,rfl,rfl,_,h2,ax.ints ns⟩
  ·intro i d p h
   rcases sl h with ⟨rfl,q⟩ | ⟨rfl,q⟩ | ⟨rfl,q⟩ <;> cases q
  ·intro i d p h a
   rcases gt a with ⟨rfl,rfl⟩ | ⟨rfl,rfl⟩
   ·exact .head _
   ·exact .tail _ (.head _)
  ·intro i j d d' p h1 h2 b1 b2
   rcases gt b1 with ⟨rfl,rfl⟩ | ⟨rfl,rfl⟩ <;> rcases gt b2 with ⟨rfl,q⟩ | ⟨rfl,q⟩
   ·rfl
   ·exact absurd q ne
   ·exact absurd q.symm ne
   ·rfl
  ·intro i p h
   rcases List.mem_cons.mp h with q | q
   ·cases q;exact⟨rfl,_,rfl⟩
   ·rcases List.mem_cons.mp q with q | q
    ·cases q;exact⟨rfl,_,rfl⟩
    ·cases q
 refine⟨rfl,[(0,p0),(2,p2)],_,fun r Γ'=>∃ bs',R bs bs'∧r=.fz (.bl true)∧Γ'=[some (.ln (.lst (bs'.map .int))),some (.fz (.str z)),some (.ln (.lst (ns.map .int)))],en,?_,⟨bs,z,ns,rfl,hC,fun bs' h=>⟨bs',h,rfl,rfl⟩⟩,?_⟩
 ·intro i d h
  rcases sl h with ⟨rfl,q⟩ | ⟨rfl,q⟩ | ⟨rfl,q⟩ <;> cases q
 ·rintro r Γ' ⟨bs',hR,rfl,rfl⟩ v H' F' e' rv
  obtain⟨p0',b0,_,us0',g0,s0⟩:=e'.hl 0 _ (.inr rfl)
  have b0:some (some (V.ref p0))=some (some (V.ref p0')):=b0
  cases b0
  have s0:=s0.gW
  subst s0
  obtain⟨p2',b2,_,us2',g2,s2⟩:=e'.hl 2 _ (.inr rfl)
  have b2:some (some (V.ref p2))=some (some (V.ref p2')):=b2
  cases b2
  have s2:=s2.gW
  subst s2
  have rest:∀ b o,H b=some o→b≠p0→H' b=some o:=fun b o h n=>by
   by_cases q:b=p2
   ·subst q;rw[h2] at h;cases h;exact g2
   ·refine e'.rest b o h fun i hi=>?_
    rcases List.mem_cons.mp hi with y | y
    ·cases y;exact n rfl
    ·rcases List.mem_cons.mp y with y | y
     ·cases y;exact q rfl
     ·cases y
  refine hQ _ _ (hq bs' hR) v H' F0 ⟨fun b o h=>rest b o (e.sub b o h) (fun q=>by rw[q,f0] at h;cases h),rfl,?_,?_,?_,?_,?_,?_,aP.refl F0,fun b o h=>.inl h,fun b o h n=>rest b o h (fun q=>by subst q;exact n 0 own0),fun b h=>e'.dom b h⟩ rv
  ·intro i d h
   rcases sl h with ⟨rfl,q⟩ | ⟨rfl,q⟩ | ⟨rfl,q⟩ <;> cases q
   ·exact⟨_,rfl,rfl⟩
   ·exact⟨_,rfl,p2,_,rfl,f2,ax.ints ns⟩
  ·intro i d h
   obtain⟨rfl,rfl⟩:=hd1 h
   exact⟨p0,rfl,f0,_,g0,ax.ints bs'⟩
  ·intro i d p h
   rcases sl h with ⟨rfl,q⟩ | ⟨rfl,q⟩ | ⟨rfl,q⟩ <;> cases q
  ·intro i d p h a
   rcases sl h with ⟨rfl,q⟩ | ⟨rfl,q⟩ | ⟨rfl,q⟩ <;> cases q
   have a:some (some (V.ref p0))=some (some (V.ref p)):=a
   cases a
   exact own0
  ·intro i j d d' p q1 q2 _ _
   rw[(hd1 q1).1,(hd1 q2).1]
  ·intro i p h
   obtain⟨x,d,y⟩:=e.par i p h
   rcases sl y with ⟨rfl,q⟩ | ⟨rfl,q⟩ | ⟨rfl,q⟩ <;> cases q
   exact⟨x,_,rfl⟩
end
end L3
namespace L3
open PySem L2 PySem.Spec PyProof.Rows
section
variable {K:PySem.W.Frag} {B:Bs} {F:Hp} {σ:L2.St} {H:Hp} {Γ:G} {X:Cx} {pos:Pos}
def AF (i j:Nat) (a3 b3:TE3) (D:E3) (Γ:G):Prop:=a3 Γ fun r Γ1=>frL r fun xs=>b3 Γ1 fun r' Γ2=>frL r' fun ys=>cK Γ2 i∧cK (Γ2.set i (some (.ow (.lst xs)))) j∧D.nx ((Γ2.set i (some (.ow (.lst xs)))).set j (some (.ow (.lst ys))))
theorem Cs {i j:Nat} {x y:Str} {a b:Expr} {ta tb:TE} {a3 b3:TE3} {px py pt:Pos} {kt k2 pt2} (hc:X.calm=true) (hN:X.N.Nodup) (hi:X.N[i]?=some x) (hj:X.N[j]?=some y) (hij:i≠j)
  (hx:X.env.scope.names.lookup x=some .local) (hy:X.env.scope.names.lookup y=some .local) (ha:P3 K X a ta a3) (hb:P3 K X b tb b3)
  (hw:swappedStores [.Tuple [.Name x px,.Name y py] kt pt] (.Tuple [a,b] k2 pt2) X.env=pure (some [x,y]))
  (hs:swapsWithSole [.Tuple [.Name x px,.Name y py] kt pt] (.Tuple [a,b] k2 pt2) pos.line X.env=pure false:=by rfl)
  (hs1:starEach [a,b] X.env=(false,eval a X.env)::starEach [b] X.env:=by rfl) (hs2:starEach [b] X.env=(false,eval b X.env)::starEach [] X.env:=by rfl) :
  P3S K X (.Assign [.Tuple [.Name x px,.Name y py] kt pt] (.Tuple [a,b] k2 pt2) pos) (EF i j (iN ta (iN tb mM))) (AF i j a3 b3):=⟨Av hc hN hi hj hij hx hy (f_ ha.pe (f_ hb.pe lY hs2) hs1) hw hs,fun B F σ H Γ D D3 e k q=>by
 refine ha.rf B F σ H Γ _ _ e q fun v H1 ⟨F1,Γ1,r,s1,e1,rv,q1⟩=>?_
 obtain⟨xs,rfl,q1⟩:=oB q1
 obtain⟨p,rfl,f1,⟨vs,h1,r1⟩,b1,n1⟩:=rv
 have bf:B.F p=none:=by
  cases z:B.F p with
  | none=>rfl
  | some o=>have:=e1.keep _ _ z;rw[f1] at this;cases this
 have no:∀ i,(i,p)∉B.own:=fun i z=>by
  obtain⟨x,d,y⟩:=e1.par i p z
  exact n1 i d (.inr y) x
 refine hb.rf (B.hid p (.lst vs)) F1 σ H1 Γ1 _ _ (e1.hide f1 h1 n1) q1 fun w H2 ⟨F2,Γ2,r',s2,e2,rv2,q2⟩=>?_
 obtain⟨ys,rfl,g1,g2,q2⟩:=oB q2
 obtain⟨q',rfl,f2,⟨ws,h2,r2⟩,b2,n2⟩:=rv2
 have ne:q'≠p:=fun z=>by
  have b2:upd B.H p (.lst vs) q'=none:=b2
  rw[z,aC] at b2;cases b2
 have b2':B.H q'=none:=by
  have b2:upd B.H p (.lst vs) q'=none:=b2
  rw[aj ne] at b2;exact b2
 obtain⟨e3,h3,f3,n3⟩:=e2.zQ b1 bf no
 have il:=kz g1
 have is:i < σ.length:=by rw[e3.len];exact il
 have e4:=e3.set (v:=.ref p) (r:=.fr (.lst xs)) g1 ⟨p,rfl,f3,⟨vs,h3,r1.mono s2⟩,b1,n3⟩
 have e5:=e4.set (v:=.ref q') (r:=.fr (.lst ys)) g2 ⟨q',rfl,f2,⟨ws,h2,r2⟩,b2',fun m d hm a=>by
  by_cases z:m=i
  ·subst z;rw[aE is] at a;cases a;exact ne rfl
  ·rw[bJ (Ne.symm z)] at a
   exact n2 m d (by unfold Hld at hm ⊢;rw[bJ (Ne.symm z)] at hm;exact hm) a⟩
 exact⟨_,_,rfl,k.nx F2 _ H2 _ (s1.trans s2) e5 q2⟩⟩
def zS (i:Nat) (b3:TE3) (Γ:G) (Q:RV→G→Prop):Prop:=(∃ d,Gat Γ i=some d)∧b3 Γ fun r' Γ2=>frL r' fun ys=>∃ xs,Γ2[i]?=some (some (Sl.ow (.lst xs)))∧Q (.two xs ys) (Γ2.set i none)
theorem CY (i:Nat) {x:Str} {b:Expr} {tb:TE} {b3:TE3} {x1} {px:Pos} (hx:P3B K X (.Name x px) (fH i) (bor i)) (hb:P3 K X b tb b3) (hs:starEach [.Name x px,b] X.env=(false,eval (.Name x px) X.env)::starEach [b] X.env:=by rfl) (hs2:starEach [b] X.env=(false,eval b X.env)::starEach [] X.env:=by rfl):P3 K X (.Tuple [.Name x px,b] x1 pos) (Cg (iN (fH i) (iN tb mM))) (zS i b3):=⟨wX (f_ hx.pe (f_ hb.pe lY hs2) hs),by
 intro B F σ H Γ Q QQ e ⟨⟨d,hd⟩,q⟩ k
 obtain⟨v,hv,_⟩:=e.get hd
 refine⟨v,hv,hb.rf B F σ H Γ _ _ e q fun w H2 ⟨F2,Γ2,r',s2,e2,rv2,q2⟩=>?_⟩
 obtain⟨ys,rfl,xs,hx,q2⟩:=oB q2
 obtain⟨q',rfl,f2,⟨ws,h2,r2⟩,b2,n2⟩:=rv2
 obtain⟨p,a1,f1,vs,h1,r1⟩:=e2.hl i _ (.inl hx)
 rw[hv] at a1;cases a1
 have hf:cK Γ2 i:=by unfold cK;rw[hx];trivial
 have e3:=e2.forget hf
 have ne:p≠q':=fun z=>n2 i _ (.inl hx) (z ▸ hv)
 have hj:∀ {j:Nat} {d:D},Hld (Γ2.set i none) j d→j≠i∧Hld Γ2 j d:=fun {j d} h=>by
  by_cases z:j=i
  ·subst z
   rcases h with h | h <;> rw[aE (kz hf)] at h <;> cases h
  ·exact⟨z,by unfold Hld at h ⊢;rw[bJ (Ne.symm z)] at h;exact h⟩
 refine⟨by show 2≤sizeLine;rw[sizeLine_eq];omega,fun l hl=>k _ _ ⟨F2,_,.two xs ys,s2,e3.alloc hl _,⟨l,p,q',vs,ws,rfl,aC,?_,?_,r1,r2,ne,fun z hz=>?_⟩,q2⟩⟩
 ·rw[aj (bx h1 hl)];exact h1
 ·rw[aj (bx h2 hl)];exact h2
 ·rcases hz with rfl | rfl | rfl
  ·exact⟨e3.nof hl,e3.dom _ hl,e3.vE hl⟩
  ·exact⟨f1,e2.ow i _ _ hx hv,fun j d h a=>(hj h).1 (e2.dis j i d _ _ (hj h).2 (.inl hx) a hv)⟩
  ·exact⟨f2,b2,fun j d h=>n2 j d (hj h).2⟩⟩
def FY (a3:TE3) (Γ:G) (Q:RV→G→Prop):Prop:=a3 Γ fun r Γ1=>Q (.fz r.d) Γ1
theorem Cz {ta:TE} {a3:TE3} (h:Ref K ta a3):Ref K ta (FY a3):=fun B F σ H Γ Q QQ e q k=>
 h B F σ H Γ _ _ e q fun v H' ⟨F',Γ',r,s,e',rv,q'⟩=>by
  obtain⟨F2,s2,e2,r2⟩:=e'.frozen rv
  exact k v H' ⟨F2,Γ',.fz r.d,s.trans s2,e2,r2,q'⟩
theorem vi {i:Nat} {x:Str} {px spos:Pos} {elt iter tg:Expr} {sc:Scope} {Nc:List Str} {fr:List (Option Nat)} {wi:TI} {i3:TI3} {g:TG} {g3:TG3} {te:TE} {e3:TE3} (hN:X.N.Nodup) (hi':X.N[i]?=some x) (hx:X.env.scope.names.lookup x=some .local)
  (hc:X.calm=true) (hi:P3I K X tg iter wi i3) (Bk:Blk X.N X.env.scope sc Nc fr)
  (hg:∀ s₀ H₀ C ex pn,P3G K (bX X sc Nc s₀ H₀ C ex pn) tg g g3) (he:∀ s₀ H₀ C ex pn,P3 K (bX X sc Nc s₀ H₀ C ex pn) elt te e3) (nd:(fr.filterMap id).Nodup:=by decide)
  (hsw:swapsWith (.ListComp elt [⟨tg,iter,[],0⟩] sc pos) (some (.Name x px)) spos.line X.env=pure true:=by rfl) (hs:∀ x,foldedSetIterable iter X.env x=pure x:=by intro _;rfl) :
  P3S K X (.Assign [.Name x px] (.ListComp elt [⟨tg,iter,[],0⟩] sc pos) spos) (pN (sf fr wi g te) (nE i)) (y0 i (FY (pj fr i3 g3 e3))):=
 ⟨qv hN hi' hx hc hi.pe Bk (fun a b c d e=>(hg a b c d e).pe) (fun a b c d e=>(he a b c d e).pe) hsw hs,tZ (Cz (qt nd hi.rf (hg X.s₀ X.H₀ 0 [] []).rf (he X.s₀ X.H₀ 0 [] []).rf))⟩
end
theorem Ht {K:PySem.W.Frag} {n:Nat} {S S':S3} (h:∀ Γ Q,S' Γ Q→S Γ Q) (vs:List V) (H:Hp) (Q:VK) (E:XK) (q:sp3 K n S' vs H Q E):sp3 K n S vs H Q E:=by
 obtain⟨a,F,own,Γa,Q3,b,c,d,e⟩:=q
 exact⟨a,F,own,Γa,Q3,b,c,h _ _ d,e⟩
abbrev rd2 (f:List Int→Sl) (C:List Int→Int→Prop) (g:List Int→Int→List Int):S3:=fun Γ Q=>∃ (ns:List Int) (m:Int),Γ=[some (f ns),some (.fz (.int m))]∧C ns m∧Q (.fr (.lst ((g ns m).map .int))) Γ
section
variable {P:Program} {w:World} {K:PySem.W.Frag} {mg:Str→Option Value} {base:Heap}
theorem D5 {k:Nat} {f:Addr} {fd:FuncData} {ps:List Str} {C:List Int→Int→Prop} {g:List Int→Int→List Int} (F:aY P w K mg base CX0 k f fd ps (sp3 K 2 (rd2 (fun ns=>.fz (.lst (ns.map .int))) C g))):aY P w K mg base CX0 k f fd ps (sp3 K 2 (rd2 (fun ns=>.ln (.lst (ns.map .int))) C g)):=by
 refine F.imp fun vs H Q E h=>?_
 obtain⟨hl,F0,own,Γa,Q3,e,hno,⟨ns,m,rfl,hC,hq⟩,hQ⟩:=h
 obtain⟨v0,v1,rfl⟩:∃ a b,vs=[a,b]:=by
  match vs,hl with
  | [a,b],_=>exact⟨a,b,rfl⟩
 obtain⟨p0,a0,f0,us0,h0,r0⟩:=e.hl 0 _ (.inr rfl)
 have a0:some (some v0)=some (some (V.ref p0)):=a0
 cases a0
 have r0:=r0.gW
 subst r0
 have own0:=e.ln 0 _ p0 rfl rfl
 obtain⟨u1,a1,r1⟩:=e.fz 1 _ rfl
 have a1:some (some v1)=some (some u1):=a1
 cases a1
 have r1:v1=.int m:=r1
 subst r1
 have sl:∀ {i:Nat} {s:Sl} {x y:Sl},[some x,some y][i]?=some (some s)→(i=0∧s=x)∨(i=1∧s=y):=fun {i s x y} h=>by
  match i,h with
  | 0,h=>cases h;exact .inl ⟨rfl,rfl⟩
  | 1,h=>cases h;exact .inr ⟨rfl,rfl⟩
  | n + 2,h=>simp at h
 have nh:∀ {i:Nat} {d x y:D},¬ Hld [some (Sl.fz x),some (Sl.fz y)] i d:=fun {i d x y} h=>by
  rcases h with h | h <;> rcases sl h with ⟨rfl,q⟩ | ⟨rfl,q⟩ <;> cases q
 have hd:∀ {i:Nat} {d x y:D},Hld [some (Sl.ln x),some (Sl.fz y)] i d→i=0∧d=x:=fun {i d x y} h=>by
  rcases h with h | h <;> rcases sl h with ⟨rfl,q⟩ | ⟨rfl,q⟩ <;> cases q
  exact⟨rfl,rfl⟩
 have sm:aP (upd F0 p0 (.lst (ns.map V.int))) H:=fun b o h=>by
  by_cases z:b=p0
  ·subst z;rw[aC] at h;cases h;exact h0
  ·rw[aj z] at h;exact e.sub b o h
 refine⟨rfl,upd F0 p0 (.lst (ns.map V.int)),[],_,fun r Γ'=>r=.fr (.lst ((g ns m).map .int))∧Γ'=[some (.fz (.lst (ns.map .int))),some (.fz (.int m))],⟨sm,rfl,?_,fun i d h=>absurd h nh,fun i d p h=>absurd (Or.inl h) nh,fun i d p h=>absurd (Or.inr h) nh,fun i j d d' p h=>absurd h nh,fun i p h=>(by cases h),fun b o h=>h,fun b o h=>.inl h,fun b o h _=>h,fun b h=>h⟩,?_,⟨ns,m,rfl,hC,rfl,rfl⟩,?_⟩
 ·intro i d h
  rcases sl h with ⟨rfl,q⟩ | ⟨rfl,q⟩ <;> cases q
  ·exact⟨_,rfl,p0,_,rfl,aC,ax.ints ns⟩
  ·exact⟨_,rfl,rfl⟩
 ·intro i d h
  rcases sl h with ⟨rfl,q⟩ | ⟨rfl,q⟩ <;> cases q
 ·rintro r Γ' ⟨rfl,rfl⟩ v H' F' e' ⟨q,rfl,fq,⟨us,hq',rq⟩,bq,_⟩
  have rq:=rq.gW
  subst rq
  have bq:H q=none:=bq
  have rest:∀ b o,H b=some o→H' b=some o:=fun b o h=>e'.rest b o h (fun i hi=>by cases hi)
  have nq:F0 q=none:=by
   cases z:F0 q with
   | none=>rfl
   | some o=>have:=e.sub _ _ z;rw[bq] at this;cases this
  refine hQ _ _ hq _ H' F0 ⟨fun b o h=>rest b o (e.sub b o h),rfl,?_,?_,?_,?_,?_,?_,fun b o h=>h,fun b o h=>.inl h,fun b o h n=>rest b o h,fun b h=>e'.dom b h⟩ ⟨q,rfl,nq,⟨_,hq',ax.ints _⟩,bq,fun i d h a=>?_⟩
  ·intro i d h
   rcases sl h with ⟨rfl,q⟩ | ⟨rfl,q⟩ <;> cases q
   exact⟨_,rfl,rfl⟩
  ·intro i d h
   obtain⟨rfl,rfl⟩:=hd h
   exact⟨p0,rfl,f0,_,rest _ _ h0,ax.ints ns⟩
  ·intro i d p h
   rcases sl h with ⟨rfl,q⟩ | ⟨rfl,q⟩ <;> cases q
  ·intro i d p h a
   obtain⟨rfl,rfl⟩:=hd (.inr h)
   have a:some (some (V.ref p0))=some (some (V.ref p)):=a
   cases a
   exact own0
  ·intro i j d d' p q1 q2 _ _
   rw[(hd q1).1,(hd q2).1]
  ·intro i p h
   obtain⟨x,d,y⟩:=e.par i p h
   rcases sl y with ⟨rfl,q⟩ | ⟨rfl,q⟩ <;> cases q
   exact⟨x,_,rfl⟩
  ·obtain⟨rfl,rfl⟩:=hd h
   have a:some (some (V.ref p0))=some (some (V.ref q)):=a
   cases a
   rw[h0] at bq;cases bq
end
end L3
namespace L3
open PySem L2
def wd (i:Int):List Nat:=(toString i).toList.map Char.toNat
theorem AM (s:String):(Str.ofString s).cps.toList=s.toList.map Char.toNat:=by rw[Str.ofString_eq_toList]
theorem u7 (i:Int):(PyData.shown (.int i)).cps.toList=wd i:=by
 show (Str.ofString (toString i)).cps.toList=_
 rw[AM];rfl
theorem zO {i j:Int} (h:wd i=wd j):i=j:=by
 have h1:(toString i).toList=(toString j).toList:=by
  refine(List.map_inj_right (f:=Char.toNat) ?_).mp h
  intro x y e
  exact Char.toNat_inj.mp e
 have h2:toString i=toString j:=String.toList_inj.mp h1
 exact Int.repr_inj.mp h2
theorem Ce {i:Int} {c:Nat} (h:c∈wd i):c=45∨(48≤c∧c≤57):=by
 have dig:∀ (n:Nat) (x:Char),x∈(Nat.repr n).toList→48≤x.toNat∧x.toNat≤57:=fun n x hx=>by
  have hx:x∈Nat.toDigits 10 n:=by
   have e:(Nat.repr n).toList=Nat.toDigits 10 n:=by simp [Nat.repr]
   rw[e] at hx;exact hx
  have:=Nat.isDigit_of_mem_toDigits (by decide) (by decide) hx
  simp only[Char.isDigit,Bool.and_eq_true,decide_eq_true_eq] at this
  exact this
 obtain⟨x,hx,rfl⟩:=List.mem_map.mp h
 cases i with
 | ofNat n=>exact .inr (dig n x hx)
 | negSucc n=>
  have e:(toString (Int.negSucc n))="-"++Nat.repr (n + 1):=rfl
  rw[e,String.toList_append] at hx
  rcases List.mem_append.mp hx with hx | hx
  ·have:x='-':=by simpa using hx
   subst this;exact .inl rfl
  ·exact .inr (dig _ x hx)
def Wd (w:List Nat):Prop:=∀ c∈w,c≠44∧c≠93
theorem u9 (i:Int):Wd (wd i):=fun c hc=>by rcases Ce hc with h | h <;> omega
theorem zP {x y:List Nat} (hx:Wd x) (hy:Wd y):∀ {c d:Nat} {u v:List Nat},(c=44∨c=93)→(d=44∨d=93)→x++c::u=y++d::v→x=y∧c=d∧u=v:=by
 induction x generalizing y with
 | nil=>
  intro c d u v hc hd e
  cases y with
  | nil=>cases e;exact⟨rfl,rfl,rfl⟩
  | cons b y=>
   cases e
   have:=hy c List.mem_cons_self
   omega
 | cons a x ih=>
  intro c d u v hc hd e
  cases y with
  | nil=>
   have e1:a=d:=by injection e
   have:=hx a List.mem_cons_self
   omega
  | cons b y=>
   have e1:a=b:=by injection e
   have e2:x++c::u=y++d::v:=by injection e
   obtain⟨h1,h2,h3⟩:=ih (fun z hz=>hx z (List.mem_cons_of_mem _ hz)) (y:=y) (fun z hz=>hy z (List.mem_cons_of_mem _ hz)) hc hd e2
   exact⟨by rw[e1,h1],h2,h3⟩
def tl:List Int→List Nat
 | []=>[93]
 | i::is=>44::32::(wd i++tl is)
theorem p_:∀ is:List Int,∃ c u,tl is=c::u∧(c=44∨c=93)
 | []=>⟨93,[],rfl,.inr rfl⟩
 | i::is=>⟨44,_,rfl,.inl rfl⟩
theorem zW:∀ {is js:List Int} {u v:List Nat},tl is++u=tl js++v→is=js∧u=v
 | [],[],u,v,e=>by
  have:93::u=93::v:=e
  injection this with _ h
  exact⟨rfl,h⟩
 | [],j::js,u,v,e=>by
  have:93::u=44::_:=e
  injection this with h
  omega
 | i::is,[],u,v,e=>by
  have:44::_=93::v:=e
  injection this with h
  omega
 | i::is,j::js,u,v,e=>by
  have e:44::32::(wd i++tl is)++u=44::32::(wd j++tl js)++v:=e
  have e1:wd i++(tl is++u)=wd j++(tl js++v):=by simpa using e
  obtain⟨c,x,hc,hc'⟩:=p_ is
  obtain⟨d,y,hd,hd'⟩:=p_ js
  rw[hc,hd] at e1
  obtain⟨h1,h2,h3⟩:=zP (u9 i) (u9 j) hc' hd' (by simpa using e1)
  have e2:tl is++u=tl js++v:=by rw[hc,hd,h2];simp [h3]
  obtain⟨h4,h5⟩:=zW e2
  exact⟨by rw[zO h1,h4],h5⟩
def lt:List Int→List Nat
 | []=>[91,93]
 | i::is=>91::(wd i++tl is)
theorem DT (i:Int):∃ c u,wd i=c::u∧c≠93:=by
 cases q:wd i with
 | nil=>
  have:(toString i).toList=[]:=by simpa [wd] using q
  have h2:toString i="":=String.toList_inj.mp (by rw[this];rfl)
  cases i with
  | ofNat n=>exact absurd (show Nat.repr n="" from h2) Nat.repr_ne_empty
  | negSucc n=>
   have h3:("-"++Nat.repr (n + 1)).toList=[]:=this
   rw[String.toList_append] at h3
   simp at h3
 | cons c u=>exact⟨c,u,rfl,(u9 i c (by rw[q];exact List.mem_cons_self)).2⟩
theorem A1:∀ {is js:List Int} {u v:List Nat},lt is++u=lt js++v→is=js∧u=v
 | [],[],u,v,e=>by
  have:91::93::u=91::93::v:=e
  injection this with _ h
  injection h with _ h
  exact⟨rfl,h⟩
 | [],j::js,u,v,e=>by
  obtain⟨c,x,hc,hc'⟩:=DT j
  have e:91::93::u=91::(wd j++tl js)++v:=e
  rw[hc] at e
  injection e with _ e
  injection e with e _
  exact absurd e.symm hc'
 | i::is,[],u,v,e=>by
  obtain⟨c,x,hc,hc'⟩:=DT i
  have e:91::(wd i++tl is)++u=91::93::v:=e
  rw[hc] at e
  injection e with _ e
  injection e with e _
  exact absurd e hc'
 | i::is,j::js,u,v,e=>by
  have e:91::(wd i++tl is)++u=91::(wd j++tl js)++v:=e
  have e1:wd i++(tl is++u)=wd j++(tl js++v):=by simpa using e
  obtain⟨c,x,hc,hc'⟩:=p_ is
  obtain⟨d,y,hd,hd'⟩:=p_ js
  rw[hc,hd] at e1
  obtain⟨h1,h2,h3⟩:=zP (u9 i) (u9 j) hc' hd' (by simpa using e1)
  have e2:tl is++u=tl js++v:=by rw[hc,hd,h2];simp [h3]
  obtain⟨h4,h5⟩:=zW e2
  exact⟨by rw[zO h1,h4],h5⟩
theorem app_list (x y:Str):(x++y).cps.toList=x.cps.toList++y.cps.toList:=by
 show (x.cps++y.cps).toList=_
 simp
theorem vV:∀ ns:List Int,dtL (ns.map D.int)=ns.map PyData.int
 | []=>rfl
 | n::ns=>by rw[List.map_cons,dtL,vV ns];rfl
theorem shownAll_ints:∀ ns:List Int,PyData.shownAll (ns.map PyData.int)=ns.map fun n=>PyData.shown (.int n)
 | []=>rfl
 | n::ns=>by rw[List.map_cons,PyData.shownAll,shownAll_ints ns];rfl
theorem yw:∀ (ns:List Int) (k:Nat) (acc:Str),0 < k→(textFrom k acc (ns.map fun n=>PyData.shown (.int n))++("]":Str)).cps.toList=acc.cps.toList++tl ns
 | [],k,acc,_=>by
  show (acc++("]":Str)).cps.toList=_
  rw[app_list];rfl
 | n::ns,k,acc,hk=>by
  show (textFrom (k + 1) (acc++(if k > 0 then ", " else "":String)++PyData.shown (.int n)) (ns.map fun n=>PyData.shown (.int n))++("]":Str)).cps.toList=_
  rw[yw ns (k + 1) _ (by omega),app_list,app_list,if_pos hk,u7]
  show (acc.cps.toList++[44,32]++wd n)++tl ns=_
  simp [tl]
theorem vd (ns:List Int):(shw (.lst (ns.map D.int))).cps.toList=lt ns:=by
 unfold shw
 show (PyData.shown (dt (.lst (ns.map D.int)))).cps.toList=_
 rw[show dt (.lst (ns.map D.int))=.list (dtL (ns.map D.int)) from by rw[dt],vV]
 rw[show PyData.shown (.list (ns.map PyData.int))=listText (PyData.shownAll (ns.map PyData.int)) from by rw[PyData.shown],shownAll_ints]
 cases ns with
 | nil=>rfl
 | cons n ns=>
  show (textFrom 0 "[" ((n::ns).map fun n=>PyData.shown (.int n))++("]":Str)).cps.toList=_
  show (textFrom 1 (("[":Str)++(if 0 > 0 then ", " else "":String)++PyData.shown (.int n)) (ns.map fun n=>PyData.shown (.int n))++("]":Str)).cps.toList=_
  rw[yw ns 1 _ (by decide),app_list,app_list,u7]
  rfl
theorem tG {A B S T:List Int} (h:shw (.tup [.lst (A.map D.int),.lst (B.map D.int)])=shw (.tup [.lst (S.map D.int),.lst (T.map D.int)])):A=S∧B=T:=by
 have tx:∀ X Y:List Int,(shw (.tup [.lst (X.map D.int),.lst (Y.map D.int)])).cps.toList=40::(lt X++([44,32]++(lt Y++[41]))):=fun X Y=>by
  have e:shw (.tup [.lst (X.map D.int),.lst (Y.map D.int)])=tupleText [shw (.lst (X.map D.int)),shw (.lst (Y.map D.int))]:=by
   unfold shw
   rw[show dt (.tup [.lst (X.map D.int),.lst (Y.map D.int)])=.tuple [dt (.lst (X.map D.int)),dt (.lst (Y.map D.int))] from by simp only[dt,dtL]]
   simp only[PyData.shown,PyData.shownAll]
  rw[e]
  show ((("(":Str)++Str.join ", " [shw (.lst (X.map D.int)),shw (.lst (Y.map D.int))])++(")":Str)).cps.toList=_
  rw[app_list,app_list]
  have j:(Str.join ", " [shw (.lst (X.map D.int)),shw (.lst (Y.map D.int))]).cps.toList=lt X++([44,32]++lt Y):=by
   show (shw (.lst (X.map D.int))++", "++Str.join ", " [shw (.lst (Y.map D.int))]).cps.toList=_
   rw[app_list,app_list,vd]
   show lt X++[44,32]++(shw (.lst (Y.map D.int))).cps.toList=_
   rw[vd,List.append_assoc]
  rw[j]
  show ([40]++(lt X++([44,32]++lt Y)))++[41]=_
  simp
 have e:40::(lt A++([44,32]++(lt B++[41])))=40::(lt S++([44,32]++(lt T++[41]))):=by rw[← tx,h,tx]
 injection e with _ e
 obtain⟨h1,e⟩:=A1 e
 have e:lt B++[41]=lt T++[41]:=by simpa using e
 exact⟨h1,(A1 e).1⟩
end L3
set_option maxHeartbeats 4000000
namespace K16
open PySem L2 L3
def fw (b:Option D):Option Sl:=b.map Sl.ow
theorem xD {s:Option D} {Γ:G}:cK (fw s::Γ) 0=True:=by cases s <;> rfl
theorem Gr {n:Option D}:nP n none=none:=rfl
theorem Gm {n:Option D} {d:D}:nP n (some (.fz d))=some (.fz d):=rfl
theorem Gn {n:Option D} {d:D}:nP n (some (.ow d))=some (.ow (n.getD d)):=rfl
theorem Gs {n:Option D} {d:D}:nP n (some (.ln d))=some (.ln (n.getD d)):=rfl
theorem Gq {n:Option D} {s:Option D}:nP n (fo s)=fo s:=by cases s <;> rfl
theorem Gp {n:Option D} {s:Option D}:nP n (fw s)=fw (s.map fun d=>n.getD d):=by cases s <;> rfl
def mkL(s:String):Lean.MacroM (Array (Lean.TSyntax [`Lean.Parser.Tactic.simpStar,`Lean.Parser.Tactic.simpErase,`Lean.Parser.Tactic.simpLemma])):=do
 let mut xs:=#[]
 for w in s.splitOn " " do
  let n:=(w.dropWhile (·=='↓')).toString.toName
  let i:=match (←Lean.Macro.resolveGlobalName n) with
   |(c,[])::_=>Lean.mkCIdent c
   |_=>Lean.mkIdent n
  let t←if w.startsWith "↓" then `(Lean.Parser.Tactic.simpLemma|↓$i:ident) else `(Lean.Parser.Tactic.simpLemma|$i:ident)
  xs:=xs.push ⟨t.raw⟩
 return xs
local macro_rules | `(tactic| walk_at "y3")=>do `(tactic| try simp -dsimp only [$(←mkL "gP List.length_cons List.length_nil Nat.reduceAdd Nat.reduceSub Nat.zero_add List.replicate List.cons_append List.nil_append List.append_nil ↓Ed ↓Bl ↓Ec ↓Ee ↓Bm ↓Ei ↓H_ ↓Ia ↓H8 ↓H9 CV ↓Bh ↓wL ↓wK lh ↓Ek ↓El ↓uO ↓yq ↓Bj ↓Bf ↓HD ↓HC ↓Bn ↓Eg ↓h_c sg yZ ↓Eb ↓Eo ↓HA ↓Ef yK C5 AO ↓HB ↓Eh ↓Ea Gat Bo.at ats RV.d RV.sl zJ i2 i2' zA eq3 eqS ↓A9 ↓A8 uq um uk uo A5 zq mx3 B9 A_ AV xE xG xB xC xF sl3 Cn ↓Bi ↓Bg vO mh qk is3 knD dB dI dL dT ↓Em ext3 Ez AW B8 beq_self_eq_true i28 EK Ag vT List.zip_cons_cons List.lookup_cons List.lookup_nil ↓tK qE nD ↓A0 uw ↓yC xH ↓Ba ud ↓wM qD ↓xO ↓uE FV FU FT tgP dS E8 Ax FQ Gu vj z9 RV.fz.injEq ↓tJ cO putD tgN tgT gives frees iL3 iR1 iR2 iZ3 iE3 lz3 B7 ↓yD ↓uI ↓qU ↓xI List.isEmpty_nil List.isEmpty_cons ↓Bp ↓yr By Bz ↓Ej ↓AY gr nU iy e7 dj List.map_cons List.map_nil Option.bind_some Option.bind_none List.nodup_nil List.nodup_cons List.getElem?_cons_zero List.getElem?_cons_succ List.getElem?_nil List.set_cons_zero List.set_cons_succ exists_eq_left' exists_eq_left exists_eq' exists_eq exists_and_left exists_and_right Option.some.injEq D.int.injEq D.lst.injEq D.str.injEq D.tup.injEq D.bl.injEq D.ins.injEq D.ty.injEq List.cons.injEq and_true true_and and_false false_and true_or false_or or_false or_true and_assoc List.not_mem_nil not_false_eq_true mz sN zF zz BA Bw BB i4 Bool.false_xor Bool.not_true Bool.not_false Bool.true_xor iV List.mapIdx_cons List.mapIdx_nil cL ite_self newD Option.getD_some Option.getD_none B6 B5 B4 B2 xy xx xw if_pos if_true if_false List.all_cons List.all_nil Option.isNone_none Bool.and_true Bool.true_and decide_eq_true_eq not_true not_false_iff reduceCtorEq eq_self Bool.false_eq_true reduceIte Int.reduceEq Gr Gm Gn Gs Gq Gp xD ED zS frL AF"),*])
def top (i:Nat):Stmt:=PySem.Challenge.pw_halvedpictures_k16_whole_rows_put_back.main.body.getD i (.Pass ⟨0,0,0,0⟩)
abbrev cY:Stmt:=top 13
abbrev cy:Stmt:=top 14
abbrev dU:Stmt:=top 15
abbrev b8:Stmt:=top 16
abbrev dD:Stmt:=top 17
abbrev cX:Stmt:=top 19
abbrev df:Stmt:=top 20
abbrev cG:Stmt:=inClass (top 21) 0
abbrev bO:Stmt:=inClass (top 21) 1
abbrev cH:Stmt:=inClass (top 21) 2
abbrev bM:Stmt:=inClass (top 21) 3
abbrev bN:Stmt:=inClass (top 21) 4
abbrev bw:Stmt:=inClass (top 21) 5
abbrev bL:Stmt:=inClass (top 21) 6
abbrev aW:Stmt:=inClass (top 21) 7
abbrev aX:Stmt:=inClass (top 21) 8
abbrev bB:Stmt:=inClass (top 21) 9
abbrev bC:Stmt:=inClass (top 21) 10
abbrev bP:Stmt:=inClass (top 22) 0
abbrev aL:Stmt:=inClass (top 22) 1
abbrev aM:Stmt:=inClass (top 22) 2
abbrev bj:Stmt:=inClass (top 22) 3
abbrev bp:Stmt:=inClass (top 22) 4
abbrev iB:Stmt:=top 24
abbrev fZ:Stmt:=top 25
abbrev de:Stmt:=top 26
abbrev eW:Stmt:=top 27
abbrev eX:Stmt:=top 28
abbrev bE:Stmt:=inClass (top 29) 0
abbrev aU:Stmt:=inClass (top 29) 1
abbrev aV:Stmt:=inClass (top 29) 2
abbrev bD:Stmt:=inClass (top 30) 0
abbrev aZ:Stmt:=inClass (top 30) 1
abbrev a_:Stmt:=inClass (top 30) 2
abbrev cA:Stmt:=top 31
abbrev dC:Stmt:=top 32
abbrev cz:Stmt:=top 36
abbrev b7:Stmt:=top 37
abbrev bz:Stmt:=inClass (top 39) 0
abbrev cI:Stmt:=inClass (top 39) 3
abbrev cF:Stmt:=top 41
abbrev cZ:Stmt:=top 42
abbrev cB:Stmt:=top 43
abbrev bK:Stmt:=top 44
abbrev bY:Stmt:=top 45
abbrev aT:Stmt:=top 46
abbrev cE:Stmt:=top 47
abbrev cC:Stmt:=top 48
abbrev bR:Stmt:=top 49
abbrev bh:Stmt:=top 50
abbrev aR:Stmt:=top 51
abbrev aQ:Stmt:=top 52
abbrev kd:Stmt:=top 53
theorem vf:aw ["thing","low","high"] ["thing","low","high"] (ab cY):=⟨rfl,rfl,rfl,by decide +kernel,rfl,by decide +kernel,by decide +kernel⟩
theorem tN:aw ["thing"] ["thing"] (ab cy):=⟨rfl,rfl,rfl,by decide +kernel,rfl,by decide +kernel,by decide +kernel⟩
theorem y4:aw ["thing","least"] ["thing","least"] (ab dU):=⟨rfl,rfl,rfl,by decide +kernel,rfl,by decide +kernel,by decide +kernel⟩
def p6:Scope:={ kind:=.function,names:=[(".0",.local),("number",.local),("is_number",.globalImplicit)],isGenerator:=false,isCoroutine:=false,more:=[] }
theorem nL:Blk ["thing","least"] (ab dU) p6 ["number"] [none]:=⟨rfl,by decide +kernel,by decide +kernel,by decide +kernel,by decide +kernel,rfl,by decide +kernel⟩
theorem rN:aw ["sums","differences"] ["sums","differences"] (ab b8):=⟨rfl,rfl,rfl,by decide +kernel,rfl,by decide +kernel,by decide +kernel⟩
theorem wO:aw ["height","width"] ["height","width"] (ab dD):=⟨rfl,rfl,rfl,by decide +kernel,rfl,by decide +kernel,by decide +kernel⟩
theorem ve:aw ["row"] ["row"] (ab cX):=⟨rfl,rfl,rfl,by decide +kernel,rfl,by decide +kernel,by decide +kernel⟩
theorem wR:aw ["row"] ["row"] (ab df):=⟨rfl,rfl,rfl,by decide +kernel,rfl,by decide +kernel,by decide +kernel⟩
def oQ:Scope:={ kind:=.function,names:=[(".0",.local),("first",.local),("second",.local)],isGenerator:=false,isCoroutine:=false,more:=[] }
theorem iJ:Blk ["row"] (ab df) oQ ["first","second"] [none,none]:=⟨rfl,by decide +kernel,by decide +kernel,by decide +kernel,by decide +kernel,rfl,by decide +kernel⟩
theorem tT:aw ["self"] ["self"] (ab cG):=⟨rfl,rfl,rfl,by decide +kernel,rfl,by decide +kernel,by decide +kernel⟩
theorem qq:aw ["self","row"] ["self","row"] (ab bO):=⟨rfl,rfl,rfl,by decide +kernel,rfl,by decide +kernel,by decide +kernel⟩
theorem tU:aw ["self","sums","differences"] ["self","sums","differences"] (ab cH):=⟨rfl,rfl,rfl,by decide +kernel,rfl,by decide +kernel,by decide +kernel⟩
theorem qo:aw ["self","row"] ["self","row"] (ab bM):=⟨rfl,rfl,rfl,by decide +kernel,rfl,by decide +kernel,by decide +kernel⟩
theorem qp:aw ["self","sums","differences"] ["self","sums","differences"] (ab bN):=⟨rfl,rfl,rfl,by decide +kernel,rfl,by decide +kernel,by decide +kernel⟩
theorem jW:aw ["self","row","sums"] ["self","row"] (ab bw):=⟨rfl,rfl,rfl,by decide +kernel,rfl,by decide +kernel,by decide +kernel⟩
def ka:Scope:={ kind:=.function,names:=[(".0",.local),("first",.local),("second",.local),("self",.free)],isGenerator:=false,isCoroutine:=false,more:=[] }
theorem eL:Blk ["self","row","sums"] (ab bw) ka ["first","second","self"] [none,none,some 0]:=⟨rfl,by decide +kernel,by decide +kernel,by decide +kernel,by decide +kernel,rfl,by decide +kernel⟩
theorem eU:aw ["self","sums","gaps","row","total","gap"] ["self","sums","gaps"] (ab bL):=⟨rfl,rfl,rfl,by decide +kernel,rfl,by decide +kernel,by decide +kernel⟩
theorem lE:aw ["self","first","second"] ["self","first","second"] (ab aW):=⟨rfl,rfl,rfl,by decide +kernel,rfl,by decide +kernel,by decide +kernel⟩
theorem lF:aw ["self","number"] ["self","number"] (ab aX):=⟨rfl,rfl,rfl,by decide +kernel,rfl,by decide +kernel,by decide +kernel⟩
theorem jX:aw ["self","total","gap","first"] ["self","total","gap"] (ab bB):=⟨rfl,rfl,rfl,by decide +kernel,rfl,by decide +kernel,by decide +kernel⟩
theorem pP:aw ["self","total"] ["self","total"] (ab bC):=⟨rfl,rfl,rfl,by decide +kernel,rfl,by decide +kernel,by decide +kernel⟩
theorem qr:aw ["self"] ["self"] (ab bP):=⟨rfl,rfl,rfl,by decide +kernel,rfl,by decide +kernel,by decide +kernel⟩
theorem j5:aw ["self","first","second"] ["self","first","second"] (ab aL):=⟨rfl,rfl,rfl,by decide +kernel,rfl,by decide +kernel,by decide +kernel⟩
theorem j6:aw ["self","number"] ["self","number"] (ab aM):=⟨rfl,rfl,rfl,by decide +kernel,rfl,by decide +kernel,by decide +kernel⟩
theorem ik:aw ["self","total","gap","first"] ["self","total","gap"] (ab bj):=⟨rfl,rfl,rfl,by decide +kernel,rfl,by decide +kernel,by decide +kernel⟩
theorem mQ:aw ["self","total"] ["self","total"] (ab bp):=⟨rfl,rfl,rfl,by decide +kernel,rfl,by decide +kernel,by decide +kernel⟩
theorem Cp:aw ["numbers","at"] ["numbers","at"] (ab iB):=⟨rfl,rfl,rfl,by decide +kernel,rfl,by decide +kernel,by decide +kernel⟩
theorem mP:aw ["firsts","seconds","row","first","second"] ["firsts","seconds"] (ab fZ):=⟨rfl,rfl,rfl,by decide +kernel,rfl,by decide +kernel,by decide +kernel⟩
theorem wQ:aw ["firsts","many"] ["firsts","many"] (ab de):=⟨rfl,rfl,rfl,by decide +kernel,rfl,by decide +kernel,by decide +kernel⟩
def oP:Scope:={ kind:=.function,names:=[(".0",.local),("at",.local),("near",.globalImplicit),("firsts",.free)],isGenerator:=false,isCoroutine:=false,more:=[] }
theorem lQ:Blk ["firsts","many"] (ab de) oP ["at","firsts"] [none,some 0]:=⟨rfl,by decide +kernel,by decide +kernel,by decide +kernel,by decide +kernel,rfl,by decide +kernel⟩
theorem Aa:aw ["differences","many"] ["differences","many"] (ab eW):=⟨rfl,rfl,rfl,by decide +kernel,rfl,by decide +kernel,by decide +kernel⟩
def q_:Scope:={ kind:=.function,names:=[(".0",.local),("at",.local),("near",.globalImplicit),("differences",.free)],isGenerator:=false,isCoroutine:=false,more:=[] }
theorem pq:Blk ["differences","many"] (ab eW) q_ ["at","differences"] [none,some 0]:=⟨rfl,by decide +kernel,by decide +kernel,by decide +kernel,by decide +kernel,rfl,by decide +kernel⟩
theorem Ab:aw ["sums","many"] ["sums","many"] (ab eX):=⟨rfl,rfl,rfl,by decide +kernel,rfl,by decide +kernel,by decide +kernel⟩
def rh:Scope:={ kind:=.function,names:=[(".0",.local),("at",.local),("near",.globalImplicit),("sums",.free)],isGenerator:=false,isCoroutine:=false,more:=[] }
theorem pv:Blk ["sums","many"] (ab eX) rh ["at","sums"] [none,some 0]:=⟨rfl,by decide +kernel,by decide +kernel,by decide +kernel,by decide +kernel,rfl,by decide +kernel⟩
theorem pR:aw ["self"] ["self"] (ab bE):=⟨rfl,rfl,rfl,by decide +kernel,rfl,by decide +kernel,by decide +kernel⟩
theorem dO:aw ["self","row","firsts","seconds","differences","sums"] ["self","row"] (ab aU):=⟨rfl,rfl,rfl,by decide +kernel,rfl,by decide +kernel,by decide +kernel⟩
def jd:Scope:={ kind:=.function,names:=[(".0",.local),("first",.local),("lift",.local)],isGenerator:=false,isCoroutine:=false,more:=[] }
theorem ee:Blk ["self","row","firsts","seconds","differences","sums"] (ab aU) jd ["first","lift"] [none,none]:=⟨rfl,by decide +kernel,by decide +kernel,by decide +kernel,by decide +kernel,rfl,by decide +kernel⟩
def jc:Scope:={ kind:=.function,names:=[(".0",.local),("second",.local),("guess",.local)],isGenerator:=false,isCoroutine:=false,more:=[] }
theorem d_:Blk ["self","row","firsts","seconds","differences","sums"] (ab aU) jc ["second","guess"] [none,none]:=⟨rfl,by decide +kernel,by decide +kernel,by decide +kernel,by decide +kernel,rfl,by decide +kernel⟩
theorem eV:aw ["self","sums","differences","firsts","seconds"] ["self","sums","differences"] (ab aV):=⟨rfl,rfl,rfl,by decide +kernel,rfl,by decide +kernel,by decide +kernel⟩
def jf:Scope:={ kind:=.function,names:=[(".0",.local),("less",.local),("guess",.local)],isGenerator:=false,isCoroutine:=false,more:=[] }
theorem eh:Blk ["self","sums","differences","firsts","seconds"] (ab aV) jf ["less","guess"] [none,none]:=⟨rfl,by decide +kernel,by decide +kernel,by decide +kernel,by decide +kernel,rfl,by decide +kernel⟩
def je:Scope:={ kind:=.function,names:=[(".0",.local),("total",.local),("lift",.local)],isGenerator:=false,isCoroutine:=false,more:=[] }
theorem eg:Blk ["self","sums","differences","firsts","seconds"] (ab aV) je ["total","lift"] [none,none]:=⟨rfl,by decide +kernel,by decide +kernel,by decide +kernel,by decide +kernel,rfl,by decide +kernel⟩
theorem pQ:aw ["self"] ["self"] (ab bD):=⟨rfl,rfl,rfl,by decide +kernel,rfl,by decide +kernel,by decide +kernel⟩
theorem ig:aw ["self","row","sums","gaps"] ["self","row"] (ab aZ):=⟨rfl,rfl,rfl,by decide +kernel,rfl,by decide +kernel,by decide +kernel⟩
def ja:Scope:={ kind:=.function,names:=[(".0",.local),("gap",.local),("lean",.local)],isGenerator:=false,isCoroutine:=false,more:=[] }
theorem d8:Blk ["self","row","sums","gaps"] (ab aZ) ja ["gap","lean"] [none,none]:=⟨rfl,by decide +kernel,by decide +kernel,by decide +kernel,by decide +kernel,rfl,by decide +kernel⟩
theorem ij:aw ["self","sums","differences","gaps"] ["self","sums","differences"] (ab a_):=⟨rfl,rfl,rfl,by decide +kernel,rfl,by decide +kernel,by decide +kernel⟩
def jb:Scope:={ kind:=.function,names:=[(".0",.local),("less",.local),("lean",.local)],isGenerator:=false,isCoroutine:=false,more:=[] }
theorem d9:Blk ["self","sums","differences","gaps"] (ab a_) jb ["less","lean"] [none,none]:=⟨rfl,by decide +kernel,by decide +kernel,by decide +kernel,by decide +kernel,rfl,by decide +kernel⟩
theorem tP:aw [] [] (ab cA):=⟨rfl,rfl,rfl,by decide +kernel,rfl,by decide +kernel,by decide +kernel⟩
theorem qm:aw ["word","rule"] ["word"] (ab dC):=⟨rfl,rfl,rfl,by decide +kernel,rfl,by decide +kernel,by decide +kernel⟩
theorem tO:aw ["letter","height","width"] ["letter","height","width"] (ab cz):=⟨rfl,rfl,rfl,by decide +kernel,rfl,by decide +kernel,by decide +kernel⟩
theorem eH:aw ["height","width","way","corners","letter"] ["height","width","way"] (ab b7):=⟨rfl,rfl,rfl,by decide +kernel,rfl,by decide +kernel,by decide +kernel⟩
theorem n8:aw ["self","height","width","word","way"] ["self","height","width","word","way"] (ab bz):=⟨rfl,rfl,rfl,by decide +kernel,rfl,by decide +kernel,by decide +kernel⟩
theorem tV:aw ["self"] ["self"] (ab cI):=⟨rfl,rfl,rfl,by decide +kernel,rfl,by decide +kernel,by decide +kernel⟩
theorem tR:aw ["_law_script","_law_k"] ["_law_script","_law_k"] (ab cF):=⟨rfl,rfl,rfl,by decide +kernel,rfl,by decide +kernel,by decide +kernel⟩
theorem vg:aw ["_law_cell_here"] ["_law_cell_here"] (ab cZ):=⟨rfl,rfl,rfl,by decide +kernel,rfl,by decide +kernel,by decide +kernel⟩
theorem eQ:aw ["_law_box_here","_law_many","_law_digit","_law_far","_law_number_here"] ["_law_box_here","_law_many"] (ab cB):=⟨rfl,rfl,rfl,by decide +kernel,rfl,by decide +kernel,by decide +kernel⟩
theorem gQ:aw ["_law_box_here","_law_way","_law_far"] ["_law_box_here"] (ab bK):=⟨rfl,rfl,rfl,by decide +kernel,rfl,by decide +kernel,by decide +kernel⟩
theorem eM:aw ["_law_box_here","_law_least","_law_way","_law_many","_law_kind","_law_first","_law_step"] ["_law_box_here","_law_least"] (ab bY):=⟨rfl,rfl,rfl,by decide +kernel,rfl,by decide +kernel,by decide +kernel⟩
def nO:Scope:={ kind:=.function,names:=[(".0",.local),("_law_k",.local),("_law_number",.globalImplicit),("_law_box_here",.free)],isGenerator:=false,isCoroutine:=false,more:=[] }
theorem kT:Blk ["_law_box_here","_law_least","_law_way","_law_many","_law_kind","_law_first","_law_step"] (ab bY) nO ["_law_k","_law_box_here"] [none,some 0]:=⟨rfl,by decide +kernel,by decide +kernel,by decide +kernel,by decide +kernel,rfl,by decide +kernel⟩
def nN:Scope:={ kind:=.function,names:=[(".0",.local),("_law_k",.local),("_law_take",.globalImplicit),("_law_box_here",.free)],isGenerator:=false,isCoroutine:=false,more:=[] }
theorem kS:Blk ["_law_box_here","_law_least","_law_way","_law_many","_law_kind","_law_first","_law_step"] (ab bY) nN ["_law_k","_law_box_here"] [none,some 0]:=⟨rfl,by decide +kernel,by decide +kernel,by decide +kernel,by decide +kernel,rfl,by decide +kernel⟩
def nM:Scope:={ kind:=.function,names:=[(".0",.local),("_law_k",.local),("_law_first",.free),("_law_step",.free)],isGenerator:=false,isCoroutine:=false,more:=[] }
theorem kQ:Blk ["_law_box_here","_law_least","_law_way","_law_many","_law_kind","_law_first","_law_step"] (ab bY) nM ["_law_k","_law_first","_law_step"] [none,some 5,some 6]:=⟨rfl,by decide +kernel,by decide +kernel,by decide +kernel,by decide +kernel,rfl,by decide +kernel⟩
theorem dN:aw ["_law_box_here","_law_many","_law_more","_law_sums"] ["_law_box_here"] (ab aT):=⟨rfl,rfl,rfl,by decide +kernel,rfl,by decide +kernel,by decide +kernel⟩
def i_:Scope:={ kind:=.function,names:=[(".0",.local),("_law_k",.local),("_law_number",.globalImplicit),("_law_box_here",.free)],isGenerator:=false,isCoroutine:=false,more:=[] }
theorem gn:Blk ["_law_box_here","_law_many","_law_more","_law_sums"] (ab aT) i_ ["_law_k","_law_box_here"] [none,some 0]:=⟨rfl,by decide +kernel,by decide +kernel,by decide +kernel,by decide +kernel,rfl,by decide +kernel⟩
def i6:Scope:={ kind:=.function,names:=[(".0",.local),("_law_k",.local),("_law_number",.globalImplicit),("_law_box_here",.free)],isGenerator:=false,isCoroutine:=false,more:=[] }
theorem gm:Blk ["_law_box_here","_law_many","_law_more","_law_sums"] (ab aT) i6 ["_law_k","_law_box_here"] [none,some 0]:=⟨rfl,by decide +kernel,by decide +kernel,by decide +kernel,by decide +kernel,rfl,by decide +kernel⟩
theorem jt:aw ["_law_sums","_law_differences","_law_at","_law_total"] ["_law_sums","_law_differences"] (ab cE):=⟨rfl,rfl,rfl,by decide +kernel,rfl,by decide +kernel,by decide +kernel⟩
theorem tQ:aw ["_law_number_here"] ["_law_number_here"] (ab cC):=⟨rfl,rfl,rfl,by decide +kernel,rfl,by decide +kernel,by decide +kernel⟩
theorem rO:aw ["_law_row_here"] ["_law_row_here"] (ab bR):=⟨rfl,rfl,rfl,by decide +kernel,rfl,by decide +kernel,by decide +kernel⟩
def lL:Scope:={ kind:=.function,names:=[(".0",.local),("_law_number_here",.local),("_law_fits",.globalImplicit)],isGenerator:=false,isCoroutine:=false,more:=[] }
theorem i5:Blk ["_law_row_here"] (ab bR) lL ["_law_number_here"] [none]:=⟨rfl,by decide +kernel,by decide +kernel,by decide +kernel,by decide +kernel,rfl,by decide +kernel⟩
theorem eR:aw ["_law_rule","_law_row_here","_law_sums","_law_differences"] ["_law_rule","_law_row_here"] (ab bh):=⟨rfl,rfl,rfl,by decide +kernel,rfl,by decide +kernel,by decide +kernel⟩
theorem dR:aw ["_law_rule","_law_sums","_law_differences","_law_row_here","_law_due"] ["_law_rule","_law_sums","_law_differences"] (ab aR):=⟨rfl,rfl,rfl,by decide +kernel,rfl,by decide +kernel,by decide +kernel⟩
theorem aJ:aw ["_law_box_here","_law_word","_law_row_here","_law_plan","_law_holders","_law_owned","_law_turn","_law_some","_law_rule","_law_sums","_law_differences","_law_again","_law_told"] ["_law_box_here","_law_word","_law_row_here"] (ab aQ):=⟨rfl,rfl,rfl,by decide +kernel,rfl,by decide +kernel,by decide +kernel⟩
def iL:Scope:={ kind:=.function,names:=[(".0",.local),("_law_told",.local),("_law_held",.local)],isGenerator:=false,isCoroutine:=false,more:=[] }
theorem dM:Blk ["_law_box_here","_law_word","_law_row_here","_law_plan","_law_holders","_law_owned","_law_turn","_law_some","_law_rule","_law_sums","_law_differences","_law_again","_law_told"] (ab aQ) iL ["_law_told","_law_held"] [none,none]:=⟨rfl,by decide +kernel,by decide +kernel,by decide +kernel,by decide +kernel,rfl,by decide +kernel⟩
def iK:Scope:={ kind:=.function,names:=[(".0",.local),("_law_number_here",.local),("_law_take",.globalImplicit),("_law_box_here",.free),("_law_turn",.free)],isGenerator:=false,isCoroutine:=false,more:=[] }
theorem fF:Blk ["_law_box_here","_law_word","_law_row_here","_law_plan","_law_holders","_law_owned","_law_turn","_law_some","_law_rule","_law_sums","_law_differences","_law_again","_law_told"] (ab aQ) iK ["_law_number_here","_law_box_here","_law_turn"] [none,some 0,some 6]:=⟨rfl,by decide +kernel,by decide +kernel,by decide +kernel,by decide +kernel,rfl,by decide +kernel⟩
theorem jr:aw ["_law_script","_law_k","_law_box_here","_law_row_here","_law_sums","_law_differences","_law_small_here","_law_word","_law_rule"] ["_law_script"] (ab kd):=⟨rfl,rfl,rfl,by decide +kernel,rfl,by decide +kernel,by decide +kernel⟩
def uP:Scope:={ kind:=.function,names:=[(".0",.local),("_law_number_here",.local)],isGenerator:=false,isCoroutine:=false,more:=[] }
theorem sS:Blk ["_law_script","_law_k","_law_box_here","_law_row_here","_law_sums","_law_differences","_law_small_here","_law_word","_law_rule"] (ab kd) uP ["_law_number_here"] [none]:=⟨rfl,by decide +kernel,by decide +kernel,by decide +kernel,by decide +kernel,rfl,by decide +kernel⟩
set_option genInjectivity false in
set_option genSizeOf false in
structure Ad where
 bU:Addr
 cQ:Addr
 az:Addr
 aF:Addr
 ay:Addr
 b_:Addr
 bg:Addr
 mw:Addr
 kB:FuncData
 kF:Addr
 jD:FuncData
 qQ:Addr
 oC:FuncData
 jO:Addr
 iF:FuncData
 oG:Addr
 mn:FuncData
 mv:Addr
 kA:FuncData
 oJ:Addr
 mr:FuncData
 kM:Addr
 jK:FuncData
 dG:Addr
 g6:FuncData
 eN:Addr
 jL:FuncData
 gf:Addr
 g4:FuncData
 gg:Addr
 g5:FuncData
 dm:Addr
 gz:FuncData
 dF:Addr
 gZ:FuncData
 dv:Addr
 eB:FuncData
 dz:Addr
 eC:FuncData
 ft:Addr
 gA:FuncData
 fu:Addr
 gB:FuncData
 iI:Addr
 g7:FuncData
 cV:Addr
 dH:FuncData
 cW:Addr
 dJ:FuncData
 ey:Addr
 ff:FuncData
 ez:Addr
 fh:FuncData
 xK:Addr
 uy:FuncData
 uA:Addr
 qO:FuncData
 oH:Addr
 mq:FuncData
 qe:Addr
 nG:FuncData
 qf:Addr
 nH:FuncData
 g9:Addr
 gD:FuncData
 fQ:Addr
 fi:FuncData
 fR:Addr
 fk:FuncData
 g8:Addr
 gC:FuncData
 fO:Addr
 fc:FuncData
 fP:Addr
 fe:FuncData
 kH:Addr
 jF:FuncData
 oE:Addr
 mm:FuncData
 kG:Addr
 jE:FuncData
 jN:Addr
 iE:FuncData
 gE:Addr
 fL:FuncData
 kN:Addr
 jM:FuncData
 kL:Addr
 jJ:FuncData
 my:Addr
 kE:FuncData
 kI:Addr
 jG:FuncData
 iH:Addr
 gY:FuncData
 mx:Addr
 kD:FuncData
 fN:Addr
 e_:FuncData
 kK:Addr
 jI:FuncData
 kJ:Addr
 jH:FuncData
 jP:Addr
 iG:FuncData
 fM:Addr
 e9:FuncData
 eE:Addr
 d7:FuncData
 dP:Addr
 du:FuncData
 yz:Addr
 uz:FuncData
structure Txt (K:PySem.W.Frag) (mg:Str→Option Value) (a:Ad):Prop where
 cq:Cls K a.az
 xr:mg "Guessed"=some (.ref a.az)
 mk_Guessed:Mk0 K a.az
 bA:Cls K a.aF
 zl:mg "Halves"=some (.ref a.aF)
 mk_Halves:Mk0 K a.aF
 bu:Cls K a.ay
 xq:mg "Leaning"=some (.ref a.ay)
 mk_Leaning:Mk0 K a.ay
 lC:Cls K a.b_
 Dj:mg "Plan"=some (.ref a.b_)
 cN:Cls K a.bg
 Di:mg "Sums"=some (.ref a.bg)
 mk_Sums:Mk0 K a.bg
 kn:fA K a.b_ "chosen"
 pW:fA K a.b_ "corners"
 pV:fA K a.b_ "letters"
 gF:Gy K mg "ALONG_PILLARS" a.bU ["p","b"]
 jR:Gy K mg "ALONG_ROWS" a.cQ ["r","b"]
 tys:TyS K
 jU:Fun K "is_whole" "is_whole" cY a.mw a.kB
 mB:Binds K a.kB ["thing","low","high"] []
 mf:mg "is_whole"=some (.ref a.mw)
 pE:Fun K "is_number" "is_number" cy a.kF a.jD
 wg:Binds K a.jD ["thing"] []
 vH:mg "is_number"=some (.ref a.kF)
 nW:Fun K "is_row" "is_row" dU a.qQ a.oC
 rn:Binds K a.oC ["thing","least"] []
 qL:mg "is_row"=some (.ref a.qQ)
 nY:Fun K "are_halves" "are_halves" b8 a.jO a.iF
 uR:Binds K a.iF ["sums","differences"] []
 uj:mg "are_halves"=some (.ref a.jO)
 s_:Fun K "is_size" "is_size" dD a.oG a.mn
 zG:Binds K a.mn ["height","width"] []
 zk:mg "is_size"=some (.ref a.oG)
 mH:Fun K "pairs_of" "pairs_of" cX a.mv a.kA
 rj:Binds K a.kA ["row"] []
 qJ:mg "pairs_of"=some (.ref a.mv)
 o4:Fun K "gaps_of" "gaps_of" df a.oJ a.mr
 sY:Binds K a.mr ["row"] []
 sE:mg "gaps_of"=some (.ref a.oJ)
 wz:Fun K "word" "Sums.word" cG a.kM a.jK
 pw:Binds K a.jK ["self"] []
 rZ:Fun K "halves" "Sums.halves" bO a.dG a.g6
 aH:Binds K a.g6 ["self","row"] []
 wA:Fun K "back" "Sums.back" cH a.eN a.jL
 bV:Binds K a.jL ["self","sums","differences"] []
 rX:Fun K "parted" "Sums.parted" bM a.gf a.g4
 lR:Binds K a.g4 ["self","row"] []
 rY:Fun K "joined" "Sums.joined" bN a.gg a.g5
 lS:Binds K a.g5 ["self","sums","differences"] []
 rE:Fun K "sums_of" "Sums.sums_of" bw a.dm a.gz
 hW:Binds K a.gz ["self","row"] []
 rW:Fun K "row_of" "Sums.row_of" bL a.dF a.gZ
 iM:Binds K a.gZ ["self","sums","gaps"] []
 mJ:Fun K "sum_of_pair" "Sums.sum_of_pair" aW a.dv a.eB
 mD:Binds K a.eB ["self","first","second"] []
 mK:Fun K "sum_of_lone" "Sums.sum_of_lone" aX a.dz a.eC
 mE:Binds K a.eC ["self","number"] []
 rF:Fun K "pair_of" "Sums.pair_of" bB a.ft a.gA
 rz:Binds K a.gA ["self","total","gap"] []
 rG:Fun K "lone_of" "Sums.lone_of" bC a.fu a.gB
 rA:Binds K a.gB ["self","total"] []
 r8:Fun K "word" "Halves.word" bP a.iI a.g7
 lT:Binds K a.g7 ["self"] []
 kZ:Fun K "sum_of_pair" "Halves.sum_of_pair" aL a.cV a.dH
 gp:Binds K a.dH ["self","first","second"] []
 k_:Fun K "sum_of_lone" "Halves.sum_of_lone" aM a.cW a.dJ
 gq:Binds K a.dJ ["self","number"] []
 o7:Fun K "pair_of" "Halves.pair_of" bj a.ey a.ff
 jh:Binds K a.ff ["self","total","gap"] []
 o8:Fun K "lone_of" "Halves.lone_of" bp a.ez a.fh
 ji:Binds K a.fh ["self","total"] []
 oY:Fun K "near" "near" iB a.xK a.uy
 rm:Binds K a.uy ["numbers","at"] []
 qK:mg "near"=some (.ref a.xK)
 yP:Fun K "woven" "woven" fZ a.uA a.qO
 DF:Binds K a.qO ["firsts","seconds"] []
 Dh:mg "woven"=some (.ref a.uA)
 oZ:Fun K "guesses" "guesses" de a.oH a.mq
 sX:Binds K a.mq ["firsts","many"] []
 sD:mg "guesses"=some (.ref a.oH)
 uY:Fun K "lifts" "lifts" eW a.qe a.nG
 yG:Binds K a.nG ["differences","many"] []
 yi:mg "lifts"=some (.ref a.qe)
 uZ:Fun K "leans" "leans" eX a.qf a.nH
 yH:Binds K a.nH ["sums","many"] []
 yj:mg "leans"=some (.ref a.qf)
 rJ:Fun K "word" "Guessed.word" bE a.g9 a.gD
 kX:Binds K a.gD ["self"] []
 o9:Fun K "parted" "Guessed.parted" aU a.fQ a.fi
 oV:Binds K a.fi ["self","row"] []
 o_:Fun K "joined" "Guessed.joined" aV a.fR a.fk
 oW:Binds K a.fk ["self","sums","differences"] []
 rH:Fun K "word" "Leaning.word" bD a.g8 a.gC
 kW:Binds K a.gC ["self"] []
 o5:Fun K "parted" "Leaning.parted" aZ a.fO a.fc
 oT:Binds K a.fc ["self","row"] []
 o6:Fun K "joined" "Leaning.joined" a_ a.fP a.fe
 oU:Binds K a.fe ["self","sums","differences"] []
 pI:Fun K "all_rules" "all_rules" cA a.kH a.jF
 wk:Binds K a.jF [] []
 vJ:mg "all_rules"=some (.ref a.kH)
 jn:Fun K "rule_of" "rule_of" dC a.oE a.mm
 lD:Binds K a.mm ["word"] []
 lB:mg "rule_of"=some (.ref a.oE)
 pG:Fun K "can_halve" "can_halve" cz a.kG a.jE
 wj:Binds K a.jE ["letter","height","width"] []
 vI:mg "can_halve"=some (.ref a.kG)
 nX:Fun K "corners_of" "corners_of" b7 a.jN a.iE
 uQ:Binds K a.iE ["height","width","way"] []
 ui:mg "corners_of"=some (.ref a.jN)
 p9:Fun K "__init__" "Plan.__init__" bz a.gE a.fL
 p7:Binds K a.fL ["self","height","width","word","way"] []
 wB:Fun K "rule" "Plan.rule" cI a.kN a.jM
 pA:Binds K a.jM ["self"] []
 pM:Fun K "_law_cell" "_law_cell" cF a.kL a.jJ
 wq:Binds K a.jJ ["_law_script","_law_k"] []
 vM:mg "_law_cell"=some (.ref a.kL)
 rD:Fun K "_law_box" "_law_box" cZ a.my a.kE
 xR:Binds K a.kE ["_law_cell_here"] []
 xp:mg "_law_box"=some (.ref a.my)
 aK:Fun K "_law_take" "_law_take" cB a.kI a.jG
 aO:Binds K a.jG ["_law_box_here","_law_many"] []
 aN:mg "_law_take"=some (.ref a.kI)
 eJ:Fun K "_law_number" "_law_number" bK a.iH a.gY
 gi:Binds K a.gY ["_law_box_here"] []
 gc:mg "_law_number"=some (.ref a.iH)
 rC:Fun K "_law_row" "_law_row" bY a.mx a.kD
 xQ:Binds K a.kD ["_law_box_here","_law_least"] []
 xo:mg "_law_row"=some (.ref a.mx)
 jo:Fun K "_law_halves_of" "_law_halves_of" aT a.fN a.e_
 oR:Binds K a.e_ ["_law_box_here"] []
 oq:mg "_law_halves_of"=some (.ref a.fN)
 pK:Fun K "_law_even" "_law_even" cE a.kK a.jI
 wo:Binds K a.jI ["_law_sums","_law_differences"] []
 vL:mg "_law_even"=some (.ref a.kK)
 pJ:Fun K "_law_fits" "_law_fits" cC a.kJ a.jH
 wm:Binds K a.jH ["_law_number_here"] []
 vK:mg "_law_fits"=some (.ref a.kJ)
 jV:Fun K "_law_small" "_law_small" bR a.jP a.iG
 nQ:Binds K a.iG ["_law_row_here"] []
 nA:mg "_law_small"=some (.ref a.jP)
 fY:Fun K "_law_row_right" "_law_row_right" bh a.fM a.e9
 jg:Binds K a.e9 ["_law_rule","_law_row_here"] []
 iX:mg "_law_row_right"=some (.ref a.fM)
 eF:Fun K "_law_halves_right" "_law_halves_right" aR a.eE a.d7
 gJ:Binds K a.d7 ["_law_rule","_law_sums","_law_differences"] []
 gG:mg "_law_halves_right"=some (.ref a.eE)
 iz:Fun K "_law_kept_right" "_law_kept_right" aQ a.dP a.du
 nR:Binds K a.du ["_law_box_here","_law_word","_law_row_here"] []
 nB:mg "_law_kept_right"=some (.ref a.dP)
 Ik:Fun K "law" "law" kd a.yz a.uz
 JI:Binds K a.uz ["_law_script"] []
 JE:mg "law"=some (.ref a.yz)
 mk_Plan:Mk K a.b_ a.gE
 j1:Meth K a.az "word" a.g9
 ny:Meth K a.az "parted" a.fQ
 nz:Meth K a.az "joined" a.fR
 cT:Meth K a.az "halves" a.dG
 gw:Meth K a.az "back" a.eN
 xh:Meth K a.az "sums_of" a.dm
 yg:Meth K a.az "row_of" a.dF
 ug:Meth K a.az "sum_of_pair" a.dv
 uh:Meth K a.az "sum_of_lone" a.dz
 xi:Meth K a.az "pair_of" a.ft
 xj:Meth K a.az "lone_of" a.fu
 ko:Meth K a.aF "word" a.iI
 j8:Meth K a.aF "sum_of_pair" a.cV
 j9:Meth K a.aF "sum_of_lone" a.cW
 nu:Meth K a.aF "pair_of" a.ey
 nv:Meth K a.aF "lone_of" a.ez
 dh:Meth K a.aF "halves" a.dG
 gU:Meth K a.aF "back" a.eN
 om:Meth K a.aF "parted" a.gf
 oo:Meth K a.aF "joined" a.gg
 nr:Meth K a.aF "sums_of" a.dm
 oi:Meth K a.aF "row_of" a.dF
 j0:Meth K a.ay "word" a.g8
 nj:Meth K a.ay "parted" a.fO
 nk:Meth K a.ay "joined" a.fP
 jB:Meth K a.ay "sum_of_pair" a.cV
 jC:Meth K a.ay "sum_of_lone" a.cW
 md:Meth K a.ay "pair_of" a.ey
 me:Meth K a.ay "lone_of" a.ez
 cS:Meth K a.ay "halves" a.dG
 gv:Meth K a.ay "back" a.eN
 ma:Meth K a.ay "sums_of" a.dm
 nc:Meth K a.ay "row_of" a.dF
 m_:Meth K a.b_ "rule" a.kN
 m9:Meth K a.bg "word" a.kM
 dY:Meth K a.bg "halves" a.dG
 jA:Meth K a.bg "back" a.eN
 qH:Meth K a.bg "parted" a.gf
 qI:Meth K a.bg "joined" a.gg
 pX:Meth K a.bg "sums_of" a.dm
 qG:Meth K a.bg "row_of" a.dF
 lI:Meth K a.bg "sum_of_pair" a.dv
 lJ:Meth K a.bg "sum_of_lone" a.dz
 pY:Meth K a.bg "pair_of" a.ft
 pZ:Meth K a.bg "lone_of" a.fu
 lP:∃ t,mg "MOST_NUMBER"=some (.int 999999999999999 t)
 rT:∃ t,mg "MOST_PLACES"=some (.int 512 t)
 ix:∃ t,mg "MOST_SIDE"=some (.int 64 t)
 z_abs:mg "abs"=none
 z_all:mg "all"=none
 z_bool:mg "bool"=none
 z_enumerate:mg "enumerate"=none
 z_int:mg "int"=none
 z_isinstance:mg "isinstance"=none
 z_len:mg "len"=none
 z_list:mg "list"=none
 z_max:mg "max"=none
 z_min:mg "min"=none
 z_range:mg "range"=none
 z_repr:mg "repr"=none
 z_str:mg "str"=none
 z_tuple:mg "tuple"=none
 z_zip:mg "zip"=none
 ty:jT K
abbrev il (ns:List Int):D:=.lst (ns.map .int)
def Fig (ns:List Int):Prop:=∀ n∈ns,-1000000000000000 < n∧n < 1000000000000000
theorem snoc {f:Nat→D} {k:Nat} {d:D} (h:d=f k):(List.range k).map f++[d]=(List.range (k + 1)).map f:=by
 rw[List.range_succ,List.map_append,h];rfl
theorem ints_get {ns:List Int} {k:Nat} {d:D} (h:(ns.map D.int)[k]?=some d):k < ns.length∧d=.int (ns.getD k 0):=by
 have lt:k < ns.length:=by have:=(List.getElem?_eq_some_iff.mp h).1;simpa using this
 rw[List.getElem?_map,List.getElem?_eq_getElem lt] at h
 cases h
 exact⟨lt,by simp [List.getD,lt]⟩
theorem qb {f:Nat→D} {k n:Nat} {d:D} (h:((List.range n).map f)[k]?=some d):k < n∧d=f k:=by
 have lt:k < n:=by have:=(List.getElem?_eq_some_iff.mp h).1;simpa using this
 rw[List.getElem?_map,List.getElem?_range lt] at h
 cases h
 exact⟨lt,rfl⟩
theorem yy {ns:List Int} (f:Fig ns) {k:Nat} (h:k < ns.length):-1000000000000000 < ns.getD k 0∧ns.getD k 0 < 1000000000000000:=by
 have:ns.getD k 0=ns[k]:=by simp [List.getD,h]
 rw[this];exact f _ (List.getElem_mem h)
theorem small {n:Nat} (h:n≤1000):n < sizeLine:=by rw[sizeLine_eq];omega
theorem iS (f:Nat→Int) (n:Nat):(List.range n).map (fun j=>D.int (f j))=((List.range n).map f).map D.int:=by rw[List.map_map];rfl
theorem t6 {α β:Type} (f:α→β) (xs:List α) (lo hi st:Option Int):pk (xs.map f) lo hi st=(pk xs lo hi st).map f:=by
 unfold pk
 rw[List.length_map,List.map_filterMap]
 congr 1
 funext x
 rw[List.getElem?_map]
theorem pk0 (ns:List Int):pk (ns.map D.int) (some 0) none (some 2)=(List.range ((ns.length + 1) / 2)).map fun k=>D.int (ns.getD (2 * k) 0):=by
 have h:=G6 ns
 have e:kf (ns.map V.int) (some 0) none (some 2)=(pk ns (some 0) none (some 2)).map V.int:=t6 V.int ns _ _ _
 rw[e,show (List.range ((ns.length + 1) / 2)).map (fun k=>V.int (ns.getD (2 * k) 0))=((List.range ((ns.length + 1) / 2)).map fun k=>ns.getD (2 * k) 0).map V.int by rw[List.map_map];rfl] at h
 have inj:∀ {a b:List Int},a.map V.int=b.map V.int→a=b:=fun {a b} h=>List.map_inj_right (fun _ _ q=>by cases q;rfl) |>.mp h
 rw[t6,inj h,List.map_map];rfl
theorem pk1 (ns:List Int):pk (ns.map D.int) (some 1) none (some 2)=(List.range (ns.length / 2)).map fun k=>D.int (ns.getD (2 * k + 1) 0):=by
 have h:=G5 ns
 have e:kf (ns.map V.int) (some 1) none (some 2)=(pk ns (some 1) none (some 2)).map V.int:=t6 V.int ns _ _ _
 rw[e,show (List.range (ns.length / 2)).map (fun k=>V.int (ns.getD (2 * k + 1) 0))=((List.range (ns.length / 2)).map fun k=>ns.getD (2 * k + 1) 0).map V.int by rw[List.map_map];rfl] at h
 have inj:∀ {a b:List Int},a.map V.int=b.map V.int→a=b:=fun {a b} h=>List.map_inj_right (fun _ _ q=>by cases q;rfl) |>.mp h
 rw[t6,inj h,List.map_map];rfl
def kg (ns:List Int):List D:=(List.range (ns.length / 2)).map fun j=>.tup [.int (ns.getD (2 * j) 0),.int (ns.getD (2 * j + 1) 0)]
theorem yR (ns:List Int):iA ((List.range ((ns.length + 1) / 2)).map fun k=>D.int (ns.getD (2 * k) 0)) ((List.range (ns.length / 2)).map fun k=>D.int (ns.getD (2 * k + 1) 0))=kg ns:=by
 refine List.ext_getElem? fun i=>?_
 unfold iA kg
 by_cases h:i < ns.length / 2
 ·rw[List.getElem?_map,List.getElem?_map,List.getElem?_range h]
  have:((List.map (fun k=>D.int (ns.getD (2 * k) 0)) (List.range ((ns.length + 1) / 2))).zip (List.map (fun k=>D.int (ns.getD (2 * k + 1) 0)) (List.range (ns.length / 2))))[i]?=some (D.int (ns.getD (2 * i) 0),D.int (ns.getD (2 * i + 1) 0)):=by
   rw[List.getElem?_zip_eq_some]
   exact⟨by rw[List.getElem?_map,List.getElem?_range (by omega)];rfl,by rw[List.getElem?_map,List.getElem?_range h];rfl⟩
  rw[this];rfl
 ·rw[List.getElem?_eq_none (by simp;omega),List.getElem?_eq_none (by simp;omega)]
section
variable {P:Program} {w:World} {K:PySem.W.Frag} {mg:Str→Option Value} {base:Heap} {a:Ad}
def whD (d:D) (lo hi:Int):Bool:=match d with
 | .int i=>decide (lo≤i) && decide (i≤hi)
 | _=>false
def Cc:S3:=fun Γ Q=>∃ (d:D) (lo hi:Int),Γ=[some (.fz d),some (.fz (.int lo)),some (.fz (.int hi))]∧knD d=true∧Q (.fz (.bl (whD d lo hi))) Γ
theorem ki (T:Txt K mg a):aY P w K mg base CX0 1 a.mw a.kB ["thing","low","high"] (sp3 K 3 Cc):=by
 refine ok3 T.jU vf (hbody:=fun cdv A outer s H E hr=>⟨_,_,(ao (cJ (P3W.pt (n9 (cc (aB (HS T.ty) (by rfl) T.z_isinstance (by decide +kernel) (aa (bv 0) (aa (P3.opd (yd (n:="bool") (by rfl) T.z_bool (by decide +kernel))) ae)))) (lr (cf (cc (aB (HR T.ty) (by rfl) T.z_isinstance (by decide +kernel) (aa (bv 0) (aa (P3.opd (yd (n:="int") (by rfl) T.z_int (by decide +kernel))) ae)))))))) (aq (au gj)) bF)
   (aq (au (AH q9 q9 (bv 1) (bv 0) (bv 2))))),fun Γa Q h hl=>?_⟩)
 obtain⟨d,lo,hi,rfl,hk,q⟩:=h
 cases d <;> (try cases hk) <;> walk_at "y3" <;> (try exact q)
 rename_i i
 by_cases h:lo≤i
 ·simp only[oF,h,decide_true]
  simpa only[whD,h,decide_true,Bool.true_and] using q
 ·simp only[oF,h,decide_false]
  simpa only[whD,h,decide_false,Bool.false_and] using q
def AN:S3:=fun Γ Q=>∃ (d:D),Γ=[some (.fz d)]∧knD d=true∧Q (.fz (.bl (whD d (-999999999999999) 999999999999999))) Γ
theorem t8 (T:Txt K mg a):aY P w K mg base CX0 2 a.kF a.jD ["thing"] (sp3 K 1 AN):=by
 refine ok3 T.pE tN (hbody:=fun cdv A outer s H E hr=>⟨_,_,(aq (au (ar (by rfl) (ki T) (hr.mono (by decide)) (by rfl) T.mf T.jU.kp T.mB (aa (P3.opd (p3v 0)) (aa (P3.opd (kh (P3.opd (jy (i:=999999999999999) (by rfl) T.lP)))) (aa (P3.opd (jy (i:=999999999999999) (by rfl) T.lP)) ae)))))),fun Γa Q h hl=>?_⟩)
 obtain⟨d,rfl,hk,q⟩:=h
 walk_at "y3"
 exact⟨d,_,_,rfl,hk,q⟩
theorem Cd {n:Int} (h:-1000000000000000 < n∧n < 1000000000000000):whD (.int n) (-999999999999999) 999999999999999=true:=by
 simp only[whD,Bool.and_eq_true,decide_eq_true_eq];omega
def GQ:S3:=fun Γ Q=>∃ (ns:List Int) (least:Int),Γ=[some (.fz (il ns)),some (.fz (.int least))]∧Fig ns∧ns.length≤64∧least≤(ns.length:Int)∧Q (.fz (.bl true)) Γ
theorem og (T:Txt K mg a):aY P w K mg base CX0 3 a.qQ a.oC ["thing","least"] (sp3 K 2 GQ):=by
 refine ok3 T.nW y4 (hbody:=fun cdv A outer s H E hr=>⟨_,_,(ao (cJ (P3W.pt (n9 (cf (cc (aB (HQ T.ty) (by rfl) T.z_isinstance (by decide +kernel) (aa (bv 0) (aa (P3.opd (yd (n:="list") (by rfl) T.z_list (by decide +kernel))) ae))))) (lr (cf (zc q9 q9 (bv 1) (P3.opd (aB (dn (by rfl)) (by rfl) T.z_len (by decide +kernel) (aa (bv 0) ae))) (P3.opd (jy (i:=64) (by rfl) T.ix))))))) (aq (au gj)) bF)
   (aq (au (aB (HV (by rfl) rfl) (by rfl) T.z_all (by decide +kernel) (aa (P3.opd (gb rfl (gM (by rfl) (p3v 0)) nL (fun _ _ _ _ _=>(cM (i:=0) nL.nd rfl (Or.inl rfl))) (fun _ _ _ _ _=>(ar (by rfl) (t8 T) (hr.mono (by decide)) (by rfl) T.vH T.pE.kp T.wg (aa (P3.opd (p3v 0)) ae))))) ae))))),fun Γa Q h hl=>?_⟩)
 obtain⟨ns,least,rfl,hf,h1,h2,q⟩:=h
 walk_at "y3"
 rw[List.length_map,show oF least (ns.length:Int)=true by simp only[oF,h2,decide_true],show oF (ns.length:Int) 64=true by simp only[oF,decide_eq_true_eq];omega]
 walk_at "y3"
 refine⟨small (by rw[List.length_map];omega),cv (fun k ys Γc=>ys=(List.range k).map (fun _=>D.bl true)∧∃ s,Γc=[fo s]) ⟨rfl,none,rfl⟩ ?_ ?_⟩
 ·rintro k d ys Γc hd hk ⟨rfl,s,rfl⟩
  obtain⟨lt,rfl⟩:=ints_get hd
  walk_at "y3"
  refine⟨_,rfl,rfl,?_⟩
  rw[Cd (yy hf lt)]
  walk_at "y3"
  exact⟨snoc rfl,some _,rfl⟩
 ·rintro ys Γc hk ⟨rfl,s,rfl⟩
  walk_at "y3"
  refine⟨(List.range ns.length).map fun _=>true,by rw[List.length_map,List.map_map];rfl,?_⟩
  have:((List.range ns.length).map fun _=>true).all id=true:=by simp
  rw[this];exact q
def Hx (f:Int→Int→Int):S3:=fun Γ Q=>∃ (d:D) (x y:Int),Γ=[some (.fz d),some (.fz (.int x)),some (.fz (.int y))]∧Q (.fz (.int (f x y))) Γ
def Ds (f:Int→Int):S3:=fun Γ Q=>∃ (d:D) (x:Int),Γ=[some (.fz d),some (.fz (.int x))]∧Q (.fz (.int (f x))) Γ
theorem lG (T:Txt K mg a):aY P w K mg base CX0 1 a.dv a.eB ["self","first","second"] (sp3 K 3 (Hx fun x y=>x + y)):=by
 refine ok3 T.mJ lE (hbody:=fun cdv A outer s H E hr=>⟨_,_,(aq (au (br (bv 1) (bv 2)))),fun Γa Q h hl=>?_⟩)
 obtain⟨d,x,y,rfl,q⟩:=h
 walk_at "y3"
 exact q
theorem lH (T:Txt K mg a):aY P w K mg base CX0 1 a.dz a.eC ["self","number"] (sp3 K 2 (Ds fun x=>2 * x)):=by
 refine ok3 T.mK lF (hbody:=fun cdv A outer s H E hr=>⟨_,_,(aq (au (fI (P3.opd af) (bv 1)))),fun Γa Q h hl=>?_⟩)
 obtain⟨d,x,rfl,q⟩:=h
 walk_at "y3"
 exact⟨.inl ⟨by decide,by decide⟩,q⟩
theorem fB (T:Txt K mg a):aY P w K mg base CX0 1 a.cV a.dH ["self","first","second"] (sp3 K 3 (Hx fun x y=>(x + y) / 2)):=by
 refine ok3 T.kZ j5 (hbody:=fun cdv A outer s H E hr=>⟨_,_,(aq (au (eu (P3.opd (br (bv 1) (bv 2))) (P3.opd af)))),fun Γa Q h hl=>?_⟩)
 obtain⟨d,x,y,rfl,q⟩:=h
 walk_at "y3"
 exact⟨⟨by decide,by decide⟩,q⟩
theorem fE (T:Txt K mg a):aY P w K mg base CX0 1 a.cW a.dJ ["self","number"] (sp3 K 2 (Ds fun x=>x)):=by
 refine ok3 T.k_ j6 (hbody:=fun cdv A outer s H E hr=>⟨_,_,(aq (au (vx 1))),fun Γa Q h hl=>?_⟩)
 obtain⟨d,x,rfl,q⟩:=h
 walk_at "y3"
 exact q
def nrF (ns:List Int) (k:Int):Int:=ns.getD (fmin (fmax k 0) ((ns.length:Int) - 1)).toNat 0
def Fz:S3:=fun Γ Q=>∃ (ns:List Int) (k:Int),Γ=[some (.fz (il ns)),some (.fz (.int k))]∧1≤ns.length∧Q (.fz (.int (nrF ns k))) Γ
theorem mW (T:Txt K mg a):aY P w K mg base CX0 1 a.xK a.uy ["numbers","at"] (sp3 K 2 Fz):=by
 refine ok3 T.oY Cp (hbody:=fun cdv A outer s H E hr=>⟨_,_,(aq (au (cu (by rfl) (bv 0) (P3.opd (aB (Ew rfl) (by rfl) T.z_min (by decide +kernel) (aa (P3.opd (aB (BW rfl) (by rfl) T.z_max (by decide +kernel) (aa (bv 1) (aa (P3.opd af) ae)))) (aa (P3.opd (da (P3.opd (aB (dn (by rfl)) (by rfl) T.z_len (by decide +kernel) (aa (bv 0) ae))) (P3.opd af))) ae)))) (fun _ _=>rfl)))),fun Γa Q h hl=>?_⟩)
 obtain⟨ns,k,rfl,h1,q⟩:=h
 walk_at "y3"
 rw[List.length_map]
 exact gH.mpr ⟨_,uS (by simp only[fmin,fmax];split <;> split <;> omega) (by simp only[fmin,fmax];split <;> split <;> omega),q⟩
def CW:S3:=fun Γ Q=>∃ (ns:List Int),Γ=[some (.fz (il ns))]∧ns.length≤64∧Q (.fr (.lst (kg ns))) Γ
theorem pb (T:Txt K mg a):aY P w K mg base CX0 1 a.mv a.kA ["row"] (sp3 K 1 CW):=by
 refine ok3 T.mH ve (hbody:=fun cdv A outer s H E hr=>⟨_,_,(aq (au (w9 rfl (by rfl) T.z_list (by rfl) T.z_zip (aa (P3.opd (lu (by rfl) (bv 0) (dg (P3.opd af)) gS (dg (P3.opd af)))) (aa (P3.opd (lu (by rfl) (bv 0) (dg (P3.opd af)) gS (dg (P3.opd af)))) ae))))),fun Γa Q h hl=>?_⟩)
 obtain⟨ns,rfl,h1,q⟩:=h
 walk_at "y3"
 refine⟨by decide,by decide,?_,?_⟩
 ·rw[pk0,pk1];simp only[List.length_map,List.length_range,sizeLine_eq];omega
 ·rw[pk0,pk1,yR];exact q
def rg (f:Nat→Int) (k:Nat):List Int:=(List.range k).map f
def dk (ns:List Int):List Int:=rg (fun j=>ns.getD (2 * j) 0 - ns.getD (2 * j + 1) 0) (ns.length / 2)
def Dl (f:List Int→List Int):S3:=fun Γ Q=>∃ (ns:List Int),Γ=[some (.fz (il ns))]∧ns.length≤64∧Q (.fr (il (f ns))) Γ
theorem qC (T:Txt K mg a):aY P w K mg base CX0 2 a.oJ a.mr ["row"] (sp3 K 1 (Dl dk)):=by
 refine ok3 T.o4 wR (hbody:=fun cdv A outer s H E hr=>⟨_,_,(aq (au (gb rfl (gM (by rfl) (ar (by rfl) (pb T) (hr.mono (by decide)) (by rfl) T.qJ T.mH.kp T.rj (aa (P3.opd (p3v 0)) ae))) iJ (fun _ _ _ _ _=>(gy (is:=[0,1]) (by rfl) (aS (bc (i:=0) iJ.nd rfl (Or.inl rfl)) (aS (bc (i:=1) iJ.nd rfl (Or.inl rfl)) dq)) rfl)) (fun _ _ _ _ _=>(da (bv 0) (bv 1)))))),fun Γa Q h hl=>?_⟩)
 obtain⟨ns,rfl,h1,q⟩:=h
 walk_at "y3"
 refine⟨ns,rfl,h1,?_⟩
 walk_at "y3"
 refine⟨small (by simp only[kg,List.length_map,List.length_range];omega),cv (fun k ys Γc=>ys=(List.range k).map (fun j=>D.int (ns.getD (2 * j) 0 - ns.getD (2 * j + 1) 0))∧∃ s s',Γc=[fo s,fo s']) ⟨rfl,none,none,rfl⟩ ?_ ?_⟩
 ·rintro k d ys Γc hd hk ⟨rfl,s,s',rfl⟩
  obtain⟨lt,rfl⟩:=qb hd
  walk_at "y3"
  exact⟨snoc rfl,some _,some _,rfl⟩
 ·rintro ys Γc hk ⟨rfl,s,s',rfl⟩
  walk_at "y3"
  simp only[kg,List.length_map,List.length_range]
  rw[iS]
  exact q
inductive Rl where
 | sum | half | guess | lean
def Rl.cls (a:Ad):Rl→Addr
 | .sum=>a.bg | .half=>a.aF | .guess=>a.az | .lean=>a.ay
abbrev Rl.ob (a:Ad) (R:Rl):D:=.ins (R.cls a) [] []
def cb (p:Int→Int→Int) (l:Int→Int) (ns:List Int):List Int:=rg (fun j=>p (ns.getD (2 * j) 0) (ns.getD (2 * j + 1) 0)) (ns.length / 2)++(if ns.length % 2=1 then [l (ns.getD (ns.length - 1) 0)] else [])
def Rl.pair:Rl→Int→Int→Int
 | .sum=>fun x y=>x + y | _=>fun x y=>(x + y) / 2
def Rl.gx:Rl→Int→Int
 | .sum=>fun x=>2 * x | _=>fun x=>x
def EI (a:Ad):S3:=fun Γ Q=>∃ (R:Rl) (ns:List Int),Γ=[some (.fz (R.ob a)),some (.fz (il ns))]∧R≠.guess∧2≤ns.length∧ns.length≤64∧Q (.fr (il (cb R.pair R.gx ns))) Γ
theorem ba (f:Nat→Int) (k:Nat):(rg f k).length=k:=by unfold rg;simp
theorem gu (T:Txt K mg a):aY P w K mg base CX0 2 a.dm a.gz ["self","row"] (sp3 K 2 (EI a)):=by
 refine ok3 T.rE jW (hbody:=fun cdv A outer s H E hr=>⟨_,_,(ao (dW (i:=2) jW.nd rfl rfl rfl (gM (by rfl) (ar (by rfl) (pb T) (hr.mono (by decide)) (by rfl) T.qJ T.mH.kp T.rj (aa (P3.opd (p3v 1)) ae))) eL (fun _ _ _ _ _=>(gy (is:=[0,1]) (by rfl) (aS (bc (i:=0) eL.nd rfl (Or.inl rfl)) (aS (bc (i:=1) eL.nd rfl (Or.inl rfl)) dq)) rfl)) (fun _ _ _ _ _=>(P3.or (av (by rfl) (bv 2) T.cN T.lI (lG T) (hr.mono (by decide)) T.mD (aa (P3.opd (p3v 0)) (aa (P3.opd (p3v 1)) ae))) (P3.or (av (by rfl) (bv 2) T.bA T.j8 (fB T) (hr.mono (by decide)) T.gp (aa (P3.opd (p3v 0)) (aa (P3.opd (p3v 1)) ae))) (av (by rfl) (bv 2) T.bu T.jB (fB T) (hr.mono (by decide)) T.gp (aa (P3.opd (p3v 0)) (aa (P3.opd (p3v 1)) ae)))))))
   (ao (cJ (b9 BX (P3.opd (aB (dn (by rfl)) (by rfl) T.z_len (by decide +kernel) (aa (bv 1) ae))) (P3.opd (fI (P3.opd af) (P3.opd (aB (dn (by rfl)) (by rfl) T.z_len (by decide +kernel) (aa (bv 2) ae))))) (bW _)) (aq (lp (lz 2 (by rfl) (bv 2) (P3.or (av (by rfl) (bv 0) T.cN T.lJ (lH T) (hr.mono (by decide)) T.mE (aa (P3.opd (cu (by rfl) (bv 1) (P3.opd (kh (P3.opd af))) (fun _ _=>rfl))) ae)) (P3.or (av (by rfl) (bv 0) T.bA T.j9 (fE T) (hr.mono (by decide)) T.gq (aa (P3.opd (cu (by rfl) (bv 1) (P3.opd (kh (P3.opd af))) (fun _ _=>rfl))) ae)) (av (by rfl) (bv 0) T.bu T.jC (fE T) (hr.mono (by decide)) T.gq (aa (P3.opd (cu (by rfl) (bv 1) (P3.opd (kh (P3.opd af))) (fun _ _=>rfl))) ae))))))) bF)
   (aq (au (vx 2))))),fun Γa Q h hl=>?_⟩)
 obtain⟨R,ns,rfl,hR,h2,h1,q⟩:=h
 walk_at "y3"
 refine⟨ns,rfl,h1,?_⟩
 walk_at "y3"
 refine⟨small (by simp only[kg,List.length_map,List.length_range];omega),cv (fun k ys Γc=>ys=(List.range k).map (fun j=>D.int (R.pair (ns.getD (2 * j) 0) (ns.getD (2 * j + 1) 0)))∧∃ s s',Γc=[fo s,fo s',some (.fz (R.ob a))]) ⟨rfl,none,none,rfl⟩ ?_ ?_⟩
 ·rintro k d ys Γc hd hk ⟨rfl,s,s',rfl⟩
  obtain⟨lt,rfl⟩:=qb hd
  walk_at "y3"
  cases R with
  | guess=>exact absurd rfl hR
  | sum=>
   refine .inl ?_
   walk_at "y3"
   refine⟨rfl,_,_,_,rfl,?_⟩
   walk_at "y3"
   exact⟨snoc rfl,some _,some _,rfl⟩
  | half=>
   refine .inr (.inl ?_)
   walk_at "y3"
   refine⟨rfl,_,_,_,rfl,?_⟩
   walk_at "y3"
   exact⟨snoc rfl,some _,some _,rfl⟩
  | lean=>
   refine .inr (.inr ?_)
   walk_at "y3"
   refine⟨rfl,_,_,_,rfl,?_⟩
   walk_at "y3"
   exact⟨snoc rfl,some _,some _,rfl⟩
 ·rintro ys Γc hk ⟨rfl,s,s',rfl⟩
  have hp:(kg ns).length=ns.length / 2:=by simp [kg]
  rw[hp,iS]
  walk_at "y3"
  refine⟨.inl ⟨by decide,by decide⟩,?_⟩
  simp only[List.length_map,List.length_range]
  by_cases odd:ns.length % 2=1
  ·have e1:qR (ns.length:Int) (2 * ((ns.length / 2:Nat):Int))=true:=by simp only[qR,decide_eq_true_eq];omega
   have e2:cb R.pair R.gx ns=((List.range (ns.length / 2)).map fun j=>R.pair (ns.getD (2 * j) 0) (ns.getD (2 * j + 1) 0))++[R.gx (ns.getD (ns.length - 1) 0)]:=by
    unfold cb;rw[if_pos odd];rfl
   rw[e2,il,List.map_append] at q
   rw[e1]
   walk_at "y3"
   cases R with
   | guess=>exact absurd rfl hR
   | sum=>
    refine .inl ⟨rfl,gH.mpr ⟨_,hX (by omega),?_⟩⟩
    walk_at "y3"
    refine⟨_,_,rfl,?_⟩
    walk_at "y3"
    exact⟨small (by simp only[List.length_map,List.length_range];omega),q⟩
   | half=>
    refine .inr (.inl ⟨rfl,gH.mpr ⟨_,hX (by omega),?_⟩⟩)
    walk_at "y3"
    refine⟨_,_,rfl,?_⟩
    walk_at "y3"
    exact⟨small (by simp only[List.length_map,List.length_range];omega),q⟩
   | lean=>
    refine .inr (.inr ⟨rfl,gH.mpr ⟨_,hX (by omega),?_⟩⟩)
    walk_at "y3"
    refine⟨_,_,rfl,?_⟩
    walk_at "y3"
    exact⟨small (by simp only[List.length_map,List.length_range];omega),q⟩
  ·have e1:qR (ns.length:Int) (2 * ((ns.length / 2:Nat):Int))=false:=by simp only[qR,decide_eq_false_iff_not];omega
   have e2:cb R.pair R.gx ns=((List.range (ns.length / 2)).map fun j=>R.pair (ns.getD (2 * j) 0) (ns.getD (2 * j + 1) 0)):=by
    unfold cb;rw[if_neg odd,List.append_nil];rfl
   rw[e2] at q
   rw[e1]
   exact q
def jQ (F:List Int) (ns:List Int):List Int:=rg (fun j=>ns.getD (2 * j + 1) 0 - (F.getD j 0 + nrF F ((j:Int) + 1)) / 2) (ns.length / 2)
def fsF (ns:List Int):List Int:=rg (fun j=>ns.getD (2 * j) 0) ((ns.length + 1) / 2)
def cx (d:List Int) (j:Nat):Int:=(nrF d ((j:Int) - 1) + nrF d (j:Int) + 2) / 4
def dZ (s:List Int) (j:Nat):Int:=(nrF s ((j:Int) - 1) - nrF s ((j:Int) + 1) + 2) / 4
def Rl.dif (R:Rl) (ns:List Int):List Int:=match R with
 | .sum=>dk ns | .half=>dk ns
 | .guess=>jQ (fsF ns) ns
 | .lean=>rg (fun j=>(dk ns).getD j 0 - dZ (cb Rl.lean.pair Rl.lean.gx ns) j) (ns.length / 2)
def Rl.sums (R:Rl) (ns:List Int):List Int:=match R with
 | .guess=>rg (fun j=>(fsF ns).getD j 0 + cx (jQ (fsF ns) ns) j) ((ns.length + 1) / 2)
 | R=>cb R.pair R.gx ns
theorem cR (i:Int) (n:Nat):(rng i n).length=n:=by unfold rng;simp
theorem gL {n k:Nat} {d:D} (h:(rng 0 n)[k]?=some d):k < n∧d=.int (k:Int):=by
 unfold rng at h
 obtain⟨h1,h2⟩:=qb h
 exact⟨h1,by rw[h2];simp⟩
def eK (F:List Int) (j:Nat):Int:=(F.getD j 0 + nrF F ((j:Int) + 1)) / 2
def xl (f:List Int→Nat→Int) (ok:Nat→Nat→Prop):S3:=fun Γ Q=>∃ (F:List Int) (m:Nat),Γ=[some (.fz (il F)),some (.fz (.int m))]∧1≤F.length∧ok m F.length∧m≤64∧Q (.fr (il (rg (f F) m))) Γ
theorem qB (T:Txt K mg a):aY P w K mg base CX0 2 a.oH a.mq ["firsts","many"] (sp3 K 2 (xl eK (·≤·))):=by
 refine ok3 T.oZ wQ (hbody:=fun cdv A outer s H E hr=>⟨_,_,(aq (au (gb rfl (dE (by rfl) T.z_range (ag (p3v 1) aA)) lQ (fun _ _ _ _ _=>(cM (i:=0) lQ.nd rfl (Or.inl rfl))) (fun _ _ _ _ _=>(eu (P3.opd (br (P3.opd (cu (by rfl) (bv 1) (bv 0) (fun _ _=>rfl))) (P3.opd (ar (by rfl) (mW T) (hr.mono (by decide)) (by rfl) T.qK T.oY.kp T.rm (aa (P3.opd (p3v 1)) (aa (P3.opd (br (bv 0) (P3.opd af))) ae)))))) (P3.opd af)))))),fun Γa Q h hl=>?_⟩)
 obtain⟨F,m,rfl,h1,h2,h3,q⟩:=h
 walk_at "y3"
 refine⟨by omega,by omega,small (by rw[cR];omega),cv (fun k ys Γc=>ys=(List.range k).map (fun j=>D.int (eK F j))∧∃ s,Γc=[fo s,some (.fz (il F))]) ⟨rfl,none,rfl⟩ ?_ ?_⟩
 ·rintro k d ys Γc hd hk ⟨rfl,s,rfl⟩
  obtain⟨lt,rfl⟩:=gL hd
  walk_at "y3"
  refine gH.mpr ⟨_,uS (by omega) (by omega),?_⟩
  walk_at "y3"
  refine⟨_,_,rfl,h1,?_⟩
  walk_at "y3"
  exact⟨⟨by decide,by decide⟩,snoc (by rw[Int.toNat_natCast];rfl),some _,rfl⟩
 ·rintro ys Γc hk ⟨rfl,s,rfl⟩
  walk_at "y3"
  rw[cR,Int.toNat_natCast,iS]
  exact q
theorem vA (T:Txt K mg a):aY P w K mg base CX0 2 a.qe a.nG ["differences","many"] (sp3 K 2 (xl cx fun _ _=>True)):=by
 refine ok3 T.uY Aa (hbody:=fun cdv A outer s H E hr=>⟨_,_,(aq (au (gb rfl (dE (by rfl) T.z_range (ag (p3v 1) aA)) pq (fun _ _ _ _ _=>(cM (i:=0) pq.nd rfl (Or.inl rfl))) (fun _ _ _ _ _=>(eu (P3.opd (br (P3.opd (br (P3.opd (ar (by rfl) (mW T) (hr.mono (by decide)) (by rfl) T.qK T.oY.kp T.rm (aa (P3.opd (p3v 1)) (aa (P3.opd (da (bv 0) (P3.opd af))) ae)))) (P3.opd (ar (by rfl) (mW T) (hr.mono (by decide)) (by rfl) T.qK T.oY.kp T.rm (aa (P3.opd (p3v 1)) (aa (P3.opd (p3v 0)) ae)))))) (P3.opd af))) (P3.opd af)))))),fun Γa Q h hl=>?_⟩)
 obtain⟨F,m,rfl,h1,h2,h3,q⟩:=h
 walk_at "y3"
 refine⟨by omega,by omega,small (by rw[cR];omega),cv (fun k ys Γc=>ys=(List.range k).map (fun j=>D.int (cx F j))∧∃ s,Γc=[fo s,some (.fz (il F))]) ⟨rfl,none,rfl⟩ ?_ ?_⟩
 ·rintro k d ys Γc hd hk ⟨rfl,s,rfl⟩
  obtain⟨lt,rfl⟩:=gL hd
  walk_at "y3"
  refine⟨_,_,rfl,h1,?_⟩
  walk_at "y3"
  refine⟨_,_,rfl,h1,?_⟩
  walk_at "y3"
  exact⟨⟨by decide,by decide⟩,snoc rfl,some _,rfl⟩
 ·rintro ys Γc hk ⟨rfl,s,rfl⟩
  walk_at "y3"
  rw[cR,Int.toNat_natCast,iS]
  exact q
theorem vB (T:Txt K mg a):aY P w K mg base CX0 2 a.qf a.nH ["sums","many"] (sp3 K 2 (xl dZ fun _ _=>True)):=by
 refine ok3 T.uZ Ab (hbody:=fun cdv A outer s H E hr=>⟨_,_,(aq (au (gb rfl (dE (by rfl) T.z_range (ag (p3v 1) aA)) pv (fun _ _ _ _ _=>(cM (i:=0) pv.nd rfl (Or.inl rfl))) (fun _ _ _ _ _=>(eu (P3.opd (br (P3.opd (da (P3.opd (ar (by rfl) (mW T) (hr.mono (by decide)) (by rfl) T.qK T.oY.kp T.rm (aa (P3.opd (p3v 1)) (aa (P3.opd (da (bv 0) (P3.opd af))) ae)))) (P3.opd (ar (by rfl) (mW T) (hr.mono (by decide)) (by rfl) T.qK T.oY.kp T.rm (aa (P3.opd (p3v 1)) (aa (P3.opd (br (bv 0) (P3.opd af))) ae)))))) (P3.opd af))) (P3.opd af)))))),fun Γa Q h hl=>?_⟩)
 obtain⟨F,m,rfl,h1,h2,h3,q⟩:=h
 walk_at "y3"
 refine⟨by omega,by omega,small (by rw[cR];omega),cv (fun k ys Γc=>ys=(List.range k).map (fun j=>D.int (dZ F j))∧∃ s,Γc=[fo s,some (.fz (il F))]) ⟨rfl,none,rfl⟩ ?_ ?_⟩
 ·rintro k d ys Γc hd hk ⟨rfl,s,rfl⟩
  obtain⟨lt,rfl⟩:=gL hd
  walk_at "y3"
  refine⟨_,_,rfl,h1,?_⟩
  walk_at "y3"
  refine⟨_,_,rfl,h1,?_⟩
  walk_at "y3"
  exact⟨⟨by decide,by decide⟩,snoc rfl,some _,rfl⟩
 ·rintro ys Γc hk ⟨rfl,s,rfl⟩
  walk_at "y3"
  rw[cR,Int.toNat_natCast,iS]
  exact q
theorem xb (T:Txt K mg a):aY P w K mg base CX0 2 a.qe a.nG ["differences","many"] (sp3 K 2 (rd2 (fun ns=>.ln (il ns)) (fun ns m=>0≤m∧1≤ns.length∧m≤64) fun ns m=>rg (cx ns) m.toNat)):=
 D5 ((vA T).imp (Ht fun Γ Q h=>by obtain⟨ns,m,rfl,⟨h0,h1,h2⟩,q⟩:=h;exact⟨ns,m.toNat,by rw[Int.toNat_of_nonneg h0],h1,trivial,by omega,q⟩))
theorem xc (T:Txt K mg a):aY P w K mg base CX0 2 a.qf a.nH ["sums","many"] (sp3 K 2 (rd2 (fun ns=>.ln (il ns)) (fun ns m=>0≤m∧1≤ns.length∧m≤64) fun ns m=>rg (dZ ns) m.toNat)):=
 D5 ((vB T).imp (Ht fun Γ Q h=>by obtain⟨ns,m,rfl,⟨h0,h1,h2⟩,q⟩:=h;exact⟨ns,m.toNat,by rw[Int.toNat_of_nonneg h0],h1,trivial,by omega,q⟩))
def seF (ns:List Int):List Int:=rg (fun j=>ns.getD (2 * j + 1) 0) (ns.length / 2)
theorem IT (ns:List Int):pk (ns.map D.int) (some 0) none (some 2)=(fsF ns).map D.int:=by rw[pk0];unfold fsF rg;rw[List.map_map];rfl
theorem IS (ns:List Int):pk (ns.map D.int) (some 1) none (some 2)=(seF ns).map D.int:=by rw[pk1];unfold seF rg;rw[List.map_map];rfl
theorem oA (ns:List Int):(fsF ns).length=(ns.length + 1) / 2:=ba _ _
theorem tM (ns:List Int):(seF ns).length=ns.length / 2:=ba _ _
theorem cP (f:Nat→Int) {j k:Nat} (h:j < k):(rg f k).getD j 0=f j:=by unfold rg;simp [List.getD,h]
theorem iO {p:Int→Int→Int} {l:Int→Int} (ns:List Int) (h:2≤ns.length):1≤(cb p l ns).length:=by
 unfold cb;rw[List.length_append,ba];omega
theorem gK (xs ys:List Int):(iA (xs.map D.int) (ys.map D.int)).length=min xs.length ys.length:=by unfold iA;simp
theorem zip_get {xs ys:List Int} {k:Nat} {d:D} (h:(iA (xs.map D.int) (ys.map D.int))[k]?=some d):k < xs.length∧k < ys.length∧d=.tup [.int (xs.getD k 0),.int (ys.getD k 0)]:=by
 have lt:=(List.getElem?_eq_some_iff.mp h).1
 rw[gK] at lt
 have l1:k < xs.length:=by omega
 have l2:k < ys.length:=by omega
 unfold iA at h
 have:((xs.map D.int).zip (ys.map D.int))[k]?=some (D.int (xs.getD k 0),D.int (ys.getD k 0)):=by
  rw[List.getElem?_zip_eq_some]
  exact⟨by rw[List.getElem?_map,List.getElem?_eq_getElem l1];simp [List.getD,l1],by rw[List.getElem?_map,List.getElem?_eq_getElem l2];simp [List.getD,l2]⟩
 rw[List.getElem?_map,this] at h
 cases h
 exact⟨l1,l2,rfl⟩
def w5 (a:Ad) (ok:Rl→Prop):S3:=fun Γ Q=>∃ (R:Rl) (ns:List Int),Γ=[some (.fz (R.ob a)),some (.fz (il ns))]∧ok R∧2≤ns.length∧ns.length≤64∧Q (.two ((R.sums ns).map .int) ((R.dif ns).map .int)) Γ
theorem kj (T:Txt K mg a):aY P w K mg base CX0 3 a.gf a.g4 ["self","row"] (sp3 K 2 (w5 a fun R=>R=.sum∨R=.half)):=by
 refine ok3 T.rX qo (hbody:=fun cdv A outer s H E hr=>⟨_,_,(aq (au (AG (P3.or (av (by rfl) (bv 0) T.cN T.pX (gu T) (hr.mono (by decide)) T.hW (aa (P3.opd (p3v 1)) ae)) (av (by rfl) (bv 0) T.bA T.nr (gu T) (hr.mono (by decide)) T.hW (aa (P3.opd (p3v 1)) ae))) (ar (by rfl) (qC T) (hr.mono (by decide)) (by rfl) T.sE T.o4.kp T.sY (aa (P3.opd (p3v 1)) ae))))),fun Γa Q h hl=>?_⟩)
 obtain⟨R,ns,rfl,hR,h2,h1,q⟩:=h
 walk_at "y3"
 rcases hR with rfl | rfl
 ·refine .inl ⟨rfl,.sum,ns,rfl,by simp,h2,h1,?_⟩
  walk_at "y3"
  refine⟨ns,rfl,h1,?_⟩
  walk_at "y3"
  exact q
 ·refine .inr ⟨rfl,.half,ns,rfl,by simp,h2,h1,?_⟩
  walk_at "y3"
  refine⟨ns,rfl,h1,?_⟩
  walk_at "y3"
  exact q
theorem m6 (T:Txt K mg a):aY P w K mg base CX0 3 a.fQ a.fi ["self","row"] (sp3 K 2 (w5 a (·=.guess))):=by
 refine ok3 T.o9 dO (hbody:=fun cdv A outer s H E hr=>⟨_,_,(ao (EO (i:=2) (j:=3) rfl dO.nd rfl rfl (by decide) (by rfl) (by rfl) (ag (lu (by rfl) (bv 1) (dg (P3.opd af)) gS (dg (P3.opd af))) (ag (lu (by rfl) (bv 1) (dg (P3.opd af)) gS (dg (P3.opd af))) aA)) (by rfl))
   (ao (dW (i:=4) dO.nd rfl rfl rfl (kr (by rfl) T.z_zip (ag (p3v 3) (ag (ar (by rfl) (qB T) (hr.mono (by decide)) (by rfl) T.sD T.oZ.kp T.sX (aa (P3.opd (p3v 2)) (aa (P3.opd (aB (dn (by rfl)) (by rfl) T.z_len (by decide +kernel) (aa (bv 3) ae))) ae))) aA))) d_ (fun _ _ _ _ _=>(gy (is:=[0,1]) (by rfl) (aS (bc (i:=0) d_.nd rfl (Or.inl rfl)) (aS (bc (i:=1) d_.nd rfl (Or.inl rfl)) dq)) rfl)) (fun _ _ _ _ _=>(da (bv 0) (bv 1))))
   (ao (dW (i:=5) dO.nd rfl rfl rfl (kr (by rfl) T.z_zip (ag (p3v 2) (ag (ar (by rfl) (xb T) (hr.mono (by decide)) (by rfl) T.yi T.uY.kp T.yG (aa (bv 4) (aa (P3.opd (aB (dn (by rfl)) (by rfl) T.z_len (by decide +kernel) (aa (bv 2) ae))) ae))) aA))) ee (fun _ _ _ _ _=>(gy (is:=[0,1]) (by rfl) (aS (bc (i:=0) ee.nd rfl (Or.inl rfl)) (aS (bc (i:=1) ee.nd rfl (Or.inl rfl)) dq)) rfl)) (fun _ _ _ _ _=>(br (bv 0) (bv 1))))
   (aq (au (AG (vx 5) (vx 4))))))),fun Γa Q h hl=>?_⟩)
 obtain⟨R,ns,rfl,hR,h2,h1,q⟩:=h
 walk_at "y3"
 subst hR
 refine⟨by decide,by decide,?_⟩
 rw[IT,IS]
 refine⟨fsF ns,ns.length / 2,by rw[List.length_map,tM],by rw[oA];omega,by rw[oA];omega,by omega,?_⟩
 walk_at "y3"
 have z1:(iA ((seF ns).map D.int) ((rg (eK (fsF ns)) (ns.length / 2)).map D.int)).length=ns.length / 2:=by rw[gK,tM,ba];omega
 refine⟨small (by rw[z1];omega),cv (fun k ys Γc=>ys=(List.range k).map (fun j=>D.int (ns.getD (2 * j + 1) 0 - eK (fsF ns) j))∧∃ s s',Γc=[fo s,fo s']) ⟨rfl,none,none,rfl⟩ ?_ ?_⟩
 ·rintro k d ys Γc hd hk ⟨rfl,s,s',rfl⟩
  obtain⟨l1,l2,rfl⟩:=zip_get hd
  rw[tM] at l1
  walk_at "y3"
  exact⟨snoc (by unfold seF;rw[cP _ l1,cP _ l1]),some _,some _,rfl⟩
 ·rintro ys Γc hk ⟨rfl,s,s',rfl⟩
  rw[z1,iS]
  have z2:(jQ (fsF ns) ns).length=ns.length / 2:=ba _ _
  walk_at "y3"
  refine⟨jQ (fsF ns) ns,(((ns.length + 1) / 2:Nat):Int),by rw[List.length_map,oA];rfl,⟨by omega,by omega,by omega⟩,?_⟩
  walk_at "y3"
  rw[Int.toNat_natCast]
  have z3:(iA ((fsF ns).map D.int) ((rg (cx (jQ (fsF ns) ns)) ((ns.length + 1) / 2)).map D.int)).length=(ns.length + 1) / 2:=by rw[gK,oA,ba];omega
  refine⟨small (by rw[z3];omega),cv (fun k ys Γc=>ys=(List.range k).map (fun j=>D.int ((fsF ns).getD j 0 + cx (jQ (fsF ns) ns) j))∧∃ s s',Γc=[fo s,fo s']) ⟨rfl,none,none,rfl⟩ ?_ ?_⟩
  ·rintro k d ys Γc hd hk ⟨rfl,s,s',rfl⟩
   obtain⟨l1,l2,rfl⟩:=zip_get hd
   rw[ba] at l2
   walk_at "y3"
   exact⟨snoc (by rw[cP _ l2]),some _,some _,rfl⟩
  ·rintro ys Γc hk ⟨rfl,s,s',rfl⟩
   rw[z3,iS]
   walk_at "y3"
   exact q
theorem m4 (T:Txt K mg a):aY P w K mg base CX0 3 a.fO a.fc ["self","row"] (sp3 K 2 (w5 a (·=.lean))):=by
 refine ok3 T.o5 ig (hbody:=fun cdv A outer s H E hr=>⟨_,_,(ao (Cs (i:=2) (j:=3) rfl ig.nd rfl rfl (by decide) (by rfl) (by rfl) (av (by rfl) (bv 0) T.bu T.ma (gu T) (hr.mono (by decide)) T.hW (aa (P3.opd (p3v 1)) ae)) (ar (by rfl) (qC T) (hr.mono (by decide)) (by rfl) T.sE T.o4.kp T.sY (aa (P3.opd (p3v 1)) ae)) (by rfl))
   (aq (au (CY 2 (bv 2) (gb rfl (kr (by rfl) T.z_zip (ag (p3v 3) (ag (ar (by rfl) (xc T) (hr.mono (by decide)) (by rfl) T.yj T.uZ.kp T.yH (aa (bv 2) (aa (P3.opd (aB (dn (by rfl)) (by rfl) T.z_len (by decide +kernel) (aa (bv 3) ae))) ae))) aA))) d8 (fun _ _ _ _ _=>(gy (is:=[0,1]) (by rfl) (aS (bc (i:=0) d8.nd rfl (Or.inl rfl)) (aS (bc (i:=1) d8.nd rfl (Or.inl rfl)) dq)) rfl)) (fun _ _ _ _ _=>(da (bv 0) (bv 1)))))))),fun Γa Q h hl=>?_⟩)
 obtain⟨R,ns,rfl,hR,h2,h1,q⟩:=h
 walk_at "y3"
 subst hR
 refine⟨rfl,.lean,ns,rfl,by simp,h2,h1,?_⟩
 walk_at "y3"
 refine⟨ns,rfl,h1,?_⟩
 walk_at "y3"
 have hg:(dk ns).length=ns.length / 2:=ba _ _
 refine⟨_,((ns.length / 2:Nat):Int),by rw[List.length_map,hg],⟨by omega,iO ns h2,by omega⟩,?_⟩
 walk_at "y3"
 rw[Int.toNat_natCast]
 have z1:(iA ((dk ns).map D.int) ((rg (dZ (cb Rl.lean.pair Rl.lean.gx ns)) (ns.length / 2)).map D.int)).length=ns.length / 2:=by rw[gK,hg,ba];omega
 refine⟨small (by rw[z1];omega),cv (fun k ys Γc=>ys=(List.range k).map (fun j=>D.int ((dk ns).getD j 0 - dZ (cb Rl.lean.pair Rl.lean.gx ns) j))∧∃ s s',Γc=[fo s,fo s']) ⟨rfl,none,none,rfl⟩ ?_ ?_⟩
 ·rintro k d ys Γc hd hk ⟨rfl,s,s',rfl⟩
  obtain⟨l1,l2,rfl⟩:=zip_get hd
  rw[ba] at l2
  walk_at "y3"
  exact⟨snoc (by rw[cP _ l2]),some _,some _,rfl⟩
 ·rintro ys Γc hk ⟨rfl,s,s',rfl⟩
  rw[z1,iS]
  walk_at "y3"
  exact⟨_,rfl,q⟩
def Be (a:Ad):S3:=fun Γ Q=>∃ (R:Rl) (ns:List Int),Γ=[some (.fz (R.ob a)),some (.fz (il ns))]∧Fig ns∧2≤ns.length∧ns.length≤64∧Q (.two ((R.sums ns).map .int) ((R.dif ns).map .int)) Γ
theorem aD (T:Txt K mg a):aY P w K mg base CX0 4 a.dG a.g6 ["self","row"] (sp3 K 2 (Be a)):=by
 refine ok3 T.rZ qq (hbody:=fun cdv A outer s H E hr=>⟨_,_,(ao (cJ (cf (cc (ar (by rfl) (og T) (hr.mono (by decide)) (by rfl) T.qL T.nW.kp T.rn (aa (P3.opd (p3v 1)) (aa (P3.opd af) ae))))) (aq iP) bF)
   (aq (au (P3.or (av (by rfl) (bv 0) T.cN T.qH (kj T) (hr.mono (by decide)) T.lR (aa (P3.opd (p3v 1)) ae)) (P3.or (av (by rfl) (bv 0) T.bA T.om (kj T) (hr.mono (by decide)) T.lR (aa (P3.opd (p3v 1)) ae)) (P3.or (av (by rfl) (bv 0) T.cq T.ny (m6 T) (hr.mono (by decide)) T.oV (aa (P3.opd (p3v 1)) ae)) (av (by rfl) (bv 0) T.bu T.nj (m4 T) (hr.mono (by decide)) T.oT (aa (P3.opd (p3v 1)) ae)))))))),fun Γa Q h hl=>?_⟩)
 obtain⟨R,ns,rfl,hR,h2,h1,q⟩:=h
 walk_at "y3"
 refine⟨ns,2,rfl,hR,h1,by omega,?_⟩
 walk_at "y3"
 cases R with
 | sum=>exact .inl ⟨rfl,.sum,ns,rfl,.inl rfl,h2,h1,q⟩
 | half=>exact .inr (.inl ⟨rfl,.half,ns,rfl,.inr rfl,h2,h1,q⟩)
 | guess=>exact .inr (.inr (.inl ⟨rfl,.guess,ns,rfl,rfl,h2,h1,q⟩))
 | lean=>exact .inr (.inr (.inr ⟨rfl,.lean,ns,rfl,rfl,h2,h1,q⟩))
def Rl.num:Rl→Nat
 | .sum=>0 | .half=>1 | .guess=>2 | .lean=>3
def Rl.word:Rl→Str
 | .sum=>"sum" | .half=>"half" | .guess=>"guess" | .lean=>"lean"
def jq (x:Str):S3:=fun Γ Q=>∃ d,Γ=[some (.fz d)]∧Q (.fz (.str x)) Γ
theorem mY (T:Txt K mg a):aY P w K mg base CX0 1 a.kM a.jK ["self"] (sp3 K 1 (jq "sum")):=by
 refine ok3 T.wz tT (hbody:=fun cdv A outer s H E hr=>⟨_,_,(aq (au iC)),fun Γa Q h hl=>?_⟩)
 obtain⟨d,rfl,q⟩:=h
 walk_at "y3"
 exact q
theorem km (T:Txt K mg a):aY P w K mg base CX0 1 a.iI a.g7 ["self"] (sp3 K 1 (jq "half")):=by
 refine ok3 T.r8 qr (hbody:=fun cdv A outer s H E hr=>⟨_,_,(aq (au iC)),fun Γa Q h hl=>?_⟩)
 obtain⟨d,rfl,q⟩:=h
 walk_at "y3"
 exact q
theorem jZ (T:Txt K mg a):aY P w K mg base CX0 1 a.g9 a.gD ["self"] (sp3 K 1 (jq "guess")):=by
 refine ok3 T.rJ pR (hbody:=fun cdv A outer s H E hr=>⟨_,_,(aq (au iC)),fun Γa Q h hl=>?_⟩)
 obtain⟨d,rfl,q⟩:=h
 walk_at "y3"
 exact q
theorem jY (T:Txt K mg a):aY P w K mg base CX0 1 a.g8 a.gC ["self"] (sp3 K 1 (jq "lean")):=by
 refine ok3 T.rH pQ (hbody:=fun cdv A outer s H E hr=>⟨_,_,(aq (au iC)),fun Γa Q h hl=>?_⟩)
 obtain⟨d,rfl,q⟩:=h
 walk_at "y3"
 exact q
def Ct (a:Ad):S3:=fun Γ Q=>Γ=[]∧Q (.fr (.lst [Rl.sum.ob a,Rl.half.ob a,Rl.guess.ob a,Rl.lean.ob a])) Γ
theorem t_ (T:Txt K mg a):aY P w K mg base CX0 1 a.kH a.jF [] (sp3 K 0 (Ct a)):=by
 refine ok3 T.pI tP (hbody:=fun cdv A outer s H E hr=>⟨_,_,(aq (au (ck (ag (lx T.mk_Sums (by rfl) T.Di) (ag (lx T.mk_Halves (by rfl) T.zl) (ag (lx T.mk_Guessed (by rfl) T.xr) (ag (lx T.mk_Leaning (by rfl) T.xq) aA))))))),fun Γa Q h hl=>?_⟩)
 obtain⟨rfl,q⟩:=h
 walk_at "y3"
 exact⟨by rw[sizeLine_eq];omega,q⟩
def ER (a:Ad):S3:=fun Γ Q=>∃ (R:Rl),Γ=[some (.fz (.str R.word))]∧Q (.fz (R.ob a)) Γ
theorem jz (T:Txt K mg a):aY P w K mg base CX0 2 a.oE a.mm ["word"] (sp3 K 1 (ER a)):=by
 refine ok3 T.jn qm (hbody:=fun cdv A outer s H E hr=>⟨_,_,(ao (ju PassesOwn.never rfl (gM (by rfl) (AI (by rfl) (t_ T) (hr.mono (by decide)) (by rfl) T.vJ T.pI.kp T.wk)) (cM (i:=1) qm.nd rfl (Or.inl rfl))
   (aq (cJ (b9 (hV (by rfl) hr) (P3.opd (P3.or (eI (by rfl) (bv 1) T.cN T.m9 (mY T) (hr.mono (by decide)) T.pw) (P3.or (eI (by rfl) (bv 1) T.bA T.ko (km T) (hr.mono (by decide)) T.lT) (P3.or (eI (by rfl) (bv 1) T.cq T.j1 (jZ T) (hr.mono (by decide)) T.kX) (eI (by rfl) (bv 1) T.bu T.j0 (jY T) (hr.mono (by decide)) T.kW))))) (bv 0) (bW _)) (aq (au (vx 1))) bF)))
   (aq iP)),fun Γa Q h hl=>?_⟩)
 obtain⟨R,rfl,q⟩:=h
 walk_at "y3"
 refine⟨rfl,?_⟩
 walk_at "y3"
 refine iY (fun k Γ=>k≤R.num∧∃ s,Γ=[some (.fz (.str R.word)),fo s]) ⟨Nat.zero_le _,none,rfl⟩ ?_ ?_
 ·rintro k d Γ hd ⟨hk,s,rfl⟩
  match k,hd with
  | 0,hd=>
   cases hd
   walk_at "y3"
   refine .inl ⟨rfl,_,rfl,?_⟩
   walk_at "y3"
   refine jj (fun e=>?_) (fun e=>?_)
   ·have hR:R=.sum:=by cases R <;> first | rfl | exact absurd e (by decide +kernel)
    subst hR
    walk_at "y3"
    exact q
   ·walk_at "y3"
    exact⟨by cases R <;> first | decide | exact absurd hk (by decide) | exact absurd e (by decide +kernel),some _,rfl⟩
  | 1,hd=>
   cases hd
   walk_at "y3"
   refine .inr (.inl ⟨rfl,_,rfl,?_⟩)
   walk_at "y3"
   refine jj (fun e=>?_) (fun e=>?_)
   ·have hR:R=.half:=by cases R <;> first | rfl | exact absurd e (by decide +kernel)
    subst hR
    walk_at "y3"
    exact q
   ·walk_at "y3"
    exact⟨by cases R <;> first | decide | exact absurd hk (by decide) | exact absurd e (by decide +kernel),some _,rfl⟩
  | 2,hd=>
   cases hd
   walk_at "y3"
   refine .inr (.inr (.inl ⟨rfl,_,rfl,?_⟩))
   walk_at "y3"
   refine jj (fun e=>?_) (fun e=>?_)
   ·have hR:R=.guess:=by cases R <;> first | rfl | exact absurd e (by decide +kernel)
    subst hR
    walk_at "y3"
    exact q
   ·walk_at "y3"
    exact⟨by cases R <;> first | decide | exact absurd hk (by decide) | exact absurd e (by decide +kernel),some _,rfl⟩
  | 3,hd=>
   cases hd
   walk_at "y3"
   refine .inr (.inr (.inr ⟨rfl,_,rfl,?_⟩))
   walk_at "y3"
   refine jj (fun e=>?_) (fun e=>?_)
   ·have hR:R=.lean:=by cases R <;> first | rfl | exact absurd e (by decide +kernel)
    subst hR
    walk_at "y3"
    exact q
   ·walk_at "y3"
    exact⟨by cases R <;> first | decide | exact absurd hk (by decide) | exact absurd e (by decide +kernel),some _,rfl⟩
 ·rintro Γ ⟨hk,_⟩
  cases R <;> exact absurd (show 4≤_ from hk) (by decide)
theorem qN {i3:TI3} {g3:TG3} {b3:TS3} {D:E3} {Γ:G} {t1:Tag (i3,g3,b3)} {t2:Tag D}:F7 i3 g3 b3 D Γ t1 t2=(i3 Γ fun xs Γ1=>∃ Iv:Nat→G→Prop,Iv 0 Γ1∧(∀ k d Γ,xs[k]?=some d→Iv k Γ→g3 d Γ fun Γ'=>b3 { D with nx:=Iv (k + 1),ct:=Iv (k + 1),bk:=D.nx } Γ')∧∀ Γ,Iv xs.length Γ→D.nx Γ):=rfl
inductive Lt where
 | r | p | b
deriving DecidableEq
def Lt.c:Lt→Nat
 | .r=>114 | .p=>112 | .b=>98
def Lt.s (l:Lt):Str:=sgn l.c
theorem Lt.sr:Lt.s .r=("r":Str):=by decide +kernel
theorem Lt.sp:Lt.s .p=("p":Str):=by decide +kernel
theorem Lt.sb:Lt.s .b=("b":Str):=by decide +kernel
def wy (ls:List Lt):Str:=⟨(ls.map Lt.c).toArray⟩
theorem u5 (ls:List Lt):signs (wy ls)=ls.map fun l=>D.str l.s:=by
 unfold signs wy
 rw[List.map_map]
 rfl
theorem EA (ls:List Lt):asc (wy ls)=true:=by
 unfold asc wy
 rw[Array.all_eq_true_iff_forall_mem]
 intro x hx
 simp only[List.mem_toArray,List.mem_map] at hx
 obtain⟨l,_,rfl⟩:=hx
 cases l <;> decide
theorem Iw (ls:List Lt):(wy ls).length=ls.length:=by simp [Str.length,wy]
theorem Im (ls:List Lt):(wy ls).cps.size=ls.length:=by simp [wy]
def nh (l:Lt) (h:Int):Int:=if l=.r then h else (h + 1) / 2
def nw (l:Lt) (w:Int):Int:=if l=.p then w else (w + 1) / 2
def j_ (h w:Int):List Lt→List (Int×Int)
 | []=>[(h,w)]
 | l::ls=>(h,w)::j_ (nh l h) (nw l w) ls
theorem nI (h w:Int):∀ ls:List Lt,(j_ h w ls).length=ls.length + 1
 | []=>rfl
 | l::ls=>by rw[j_,List.length_cons,nI];rfl
def cD (c:Int×Int):D:=.tup [.int c.1,.int c.2]
def Can (l:Lt) (h w:Int):Prop:=(l≠.p→2≤w)∧(l≠.r→2≤h)
def Good (h w:Int):List Lt→Prop
 | []=>True
 | l::ls=>Can l h w∧Good (nh l h) (nw l w) ls
structure Ie (h w:Int):Prop where
 h1:1≤h
 w1:1≤w
 h2:h≤64
 w2:w≤64
 m:h * w≤512
def cat (h w:Int) (ls:List Lt) (k:Nat):Int×Int:=(j_ h w ls).getD k (0,0)
theorem yB {h w:Int} {ls:List Lt} {k:Nat} (hk:k≤ls.length):(j_ h w ls)[k]?=some (cat h w ls k):=by
 unfold cat
 have:k < (j_ h w ls).length:=by rw[nI];omega
 rw[List.getD_eq_getElem?_getD,List.getElem?_eq_getElem this];rfl
theorem HM {h w:Int} {ls:List Lt} {k:Nat} (hk:k≤ls.length):((j_ h w ls).map cD)[k]?=some (cD (cat h w ls k)):=by rw[List.getElem?_map,yB hk];rfl
theorem v_ (h w:Int) (ls:List Lt):cat h w ls 0=(h,w):=by cases ls <;> rfl
theorem v9 {h w:Int} {l:Lt} {ls:List Lt} {k:Nat}:cat h w (l::ls) (k + 1)=cat (nh l h) (nw l w) ls k:=rfl
theorem v8:∀ {ls:List Lt} {h w:Int} {k:Nat} {l:Lt},ls[k]?=some l→cat h w ls (k + 1)=(nh l (cat h w ls k).1,nw l (cat h w ls k).2)
 | [],_,_,k,l,e=>by simp at e
 | l0::ls,h,w,0,l,e=>by
  have:l0=l:=by simpa using e
  subst this
  rw[v9,v_,v_]
 | l0::ls,h,w,k + 1,l,e=>by
  rw[v9,v9]
  exact v8 (by simpa using e)
theorem yt:∀ {ls:List Lt} {h w:Int} {k:Nat} {l:Lt},Good h w ls→ls[k]?=some l→Can l (cat h w ls k).1 (cat h w ls k).2
 | [],_,_,k,l,_,e=>by simp at e
 | l0::ls,h,w,0,l,g,e=>by
  have:l0=l:=by simpa using e
  subst this
  rw[v_];exact g.1
 | l0::ls,h,w,k + 1,l,g,e=>by
  rw[v9]
  exact yt g.2 (by simpa using e)
theorem DA {l:Lt} {h w:Int} (c:Can l h w) (h1:1≤h) (w1:1≤w):1≤nh l h∧1≤nw l w∧nh l h≤h∧nw l w≤w:=by
 cases l <;> simp [nh,nw] <;> omega
theorem Dz:∀ {ls:List Lt} {h w:Int} {k:Nat},Good h w ls→1≤h→1≤w→k≤ls.length→1≤(cat h w ls k).1∧1≤(cat h w ls k).2∧(cat h w ls k).1≤h∧(cat h w ls k).2≤w
 | ls,h,w,0,_,h1,w1,_=>by rw[v_];exact⟨h1,w1,Int.le_refl _,Int.le_refl _⟩
 | [],_,_,k + 1,_,_,_,hk=>by simp at hk
 | l::ls,h,w,k + 1,g,h1,w1,hk=>by
  rw[v9]
  obtain⟨a,b,c,d⟩:=DA g.1 h1 w1
  obtain⟨a',b',c',d'⟩:=Dz (k:=k) g.2 a b (by simpa using hk)
  exact⟨a',b',Int.le_trans c' c,Int.le_trans d' d⟩
theorem Iu {h w:Int} {ls:List Lt} {k:Nat} (hk:k≤ls.length):atI ((j_ h w ls).map cD) (k:Int)=some (cD (cat h w ls k)):=kY (by omega) (by rw[Int.toNat_natCast];exact HM hk)
theorem Ir {α:Type} {xs:List α} {d:α} (e:xs[xs.length - 1]?=some d):atI xs (-1)=some d:=by
 have lt:=(List.getElem?_eq_some_iff.mp e).1
 have e2:ixN xs.length (-1)=some (xs.length - 1):=by
  unfold ixN
  rw[if_neg (by decide),if_pos (by omega)]
  congr 1
  omega
 unfold L2.atI
 rw[e2];exact e
abbrev plD (a:Ad) (R:Rl) (h w:Int) (ls:List Lt):D:=.ins a.b_ ["chosen","corners","letters"] [R.ob a,.tup ((j_ h w ls).map cD),.str (wy ls)]
def HN:S3:=fun Γ Q=>∃ (l:Lt) (h w:Int),Γ=[some (.fz (.str l.s)),some (.fz (.int h)),some (.fz (.int w))]∧Can l h w∧Q (.fz (.bl true)) Γ
theorem Hr {l:Lt}:inV (V.str l.s) [V.str "r",V.str "b"]=!(l == .p):=by cases l <;> decide +kernel
theorem Hs {l:Lt}:inV (V.str l.s) [V.str "p",V.str "b"]=!(l == .r):=by cases l <;> decide +kernel
def J1 (neg:Bool) (x:D) (xs:List D):Bool:=if neg then !inV (toV x) (xs.map toV) else inV (toV x) (xs.map toV)
theorem Hn {l:Lt} {Γ:G} {Q:RV→G→Prop}:in3 false (.str l.s) (kt ["r","b"]) Γ Q=Q (.fz (.bl (!(l == .p)))) Γ:=by
 refine propext ⟨fun ⟨xs,h1,_,_,q⟩=>?_,fun q=>⟨_,rfl,rfl,rfl,?_⟩⟩
 ·have e:xs=[D.str "r",D.str "b"]:=(Option.some.inj h1).symm
  subst e
  have q:Q (.fz (.bl (inV (V.str l.s) [V.str "r",V.str "b"]))) Γ:=q
  rw[Hr] at q;exact q
 ·show Q (.fz (.bl (inV (V.str l.s) [V.str "r",V.str "b"]))) Γ
  rw[Hr];exact q
theorem Ho {l:Lt} {Γ:G} {Q:RV→G→Prop}:in3 false (.str l.s) (kt ["p","b"]) Γ Q=Q (.fz (.bl (!(l == .r)))) Γ:=by
 refine propext ⟨fun ⟨xs,h1,_,_,q⟩=>?_,fun q=>⟨_,rfl,rfl,rfl,?_⟩⟩
 ·have e:xs=[D.str "p",D.str "b"]:=(Option.some.inj h1).symm
  subst e
  have q:Q (.fz (.bl (inV (V.str l.s) [V.str "p",V.str "b"]))) Γ:=q
  rw[Hs] at q;exact q
 ·show Q (.fz (.bl (inV (V.str l.s) [V.str "p",V.str "b"]))) Γ
  rw[Hs];exact q
theorem B1 {α β:Type} {f:α→β} {xs:List α} {i:Int} {c:β} (e:atI (xs.map f) i=some c):∃ l,atI xs i=some l∧c=f l:=by
 unfold L2.atI at e ⊢
 rw[List.length_map] at e
 cases q:ixN xs.length i with
 | none=>rw[q] at e;cases e
 | some j=>
  rw[q] at e
  have e:(xs.map f)[j]?=some c:=e
  rw[List.getElem?_map] at e
  cases z:xs[j]? with
  | none=>rw[z] at e;cases e
  | some l=>rw[z] at e;cases e;exact⟨l,z,rfl⟩
def Iy (ls:List Lt) (i:Int) (k:Lt→Prop) (_:Tag k):Prop:=(wy ls).length≤sizeLine∧∃ l,atI ls i=some l∧k l
theorem Hl {ls:List Lt} {i:Int} {Γ:G} {Q:RV→G→Prop}:ix3 (.str (wy ls)) (.int i) Γ Q=Iy ls i (fun l=>Q (.fz (.str l.s)) Γ) ⟨⟩:=by
 refine propext ⟨fun ⟨h1,c,h2,q⟩=>⟨h1,?_⟩,fun ⟨h1,l,h2,q⟩=>⟨h1,l.c,?_,q⟩⟩
 ·obtain⟨l,hl,rfl⟩:=B1 (f:=Lt.c) (xs:=ls) (by simpa [wy] using h2)
  exact⟨l,hl,q⟩
 ·have:=yJ (f:=Lt.c) h2
  simpa [wy] using this
theorem atL {ls:List Lt} {k:Nat} {l:Lt} (h:ls[k]?=some l):atI ls (k:Int)=some l:=kY (by omega) (by rw[Int.toNat_natCast];exact h)
theorem sEb {l:Lt}:(l.s == ("b":Str))=(l == .b):=by cases l <;> decide +kernel
theorem sEr {l:Lt}:(l.s == ("r":Str))=(l == .r):=by cases l <;> decide +kernel
theorem sEp {l:Lt}:(l.s == ("p":Str))=(l == .p):=by cases l <;> decide +kernel
theorem Ji {a b c d e f:D}:cut [a,b,c,d,e,f] (some 2) none=[c,d,e,f]:=rfl
theorem Jc:(("corners":Str) == ("chosen":Str))=false:=by decide +kernel
theorem Ja:(("letters":Str) == ("chosen":Str))=false:=by decide +kernel
theorem I9:(("letters":Str) == ("corners":Str))=false:=by decide +kernel
theorem Jb:(("chosen":Str) == ("chosen":Str))=true:=by decide +kernel
theorem IZ:(("corners":Str) == ("corners":Str))=true:=by decide +kernel
theorem I_:(("letters":Str) == ("letters":Str))=true:=by decide +kernel
local macro_rules | `(tactic| walk_at "x7")=>do `(tactic| try simp -dsimp only [$(←mkL "gP List.length_cons List.length_nil Nat.reduceAdd Nat.reduceSub Nat.zero_add List.replicate List.cons_append List.nil_append List.append_nil z_ AU y0 ET BG FR CV z7 ↓wL ↓wK lh bor bof ↓uO BH AS kP ze t3C sg yZ tst DO or3 Dc yK C5 AO if3 FD yX Gat Bo.at ats RV.d RV.sl zJ i2 i2' zA eq3 eqS ↓A9 ↓A8 uq um uk uo A5 zq mx3 B9 A_ AV xE xG xB xC xF sl3 Cn AR z5 vO mh qk is3 knD dB dI dL dT DN ext3 Ez AW B8 ↓Hl sEb sEr sEp EK Ji Ag ↓Hn ↓Ho Jc Ja I9 Jb IZ I_ vT List.zip_cons_cons List.lookup_cons List.lookup_nil ↓tK qE nD ↓Dg uw ↓BS xH ↓Ba ud ↓wM qD ↓xO ↓uE FV FU FT tgP dS E8 Ax FQ Gu vj z9 RV.fz.injEq ↓tJ cO putD tgN tgT gives frees iL3 iR1 iR2 iZ3 iE3 lz3 B7 ↓BV ↓uI ↓qU ↓xI ↓De gr nU iy e7 dj List.map_cons List.map_nil Option.bind_some Option.bind_none List.nodup_nil List.nodup_cons List.getElem?_cons_zero List.getElem?_cons_succ List.getElem?_nil List.set_cons_zero List.set_cons_succ exists_eq_left' exists_eq_left exists_eq' exists_eq exists_and_left exists_and_right Option.some.injEq D.int.injEq D.lst.injEq D.str.injEq D.tup.injEq D.bl.injEq D.ins.injEq D.ty.injEq List.cons.injEq and_true true_and and_false false_and true_or false_or or_false or_true and_assoc List.not_mem_nil not_false_eq_true mz sN zF zz BA Bw BB i4 Bool.false_xor Bool.not_true Bool.not_false Bool.true_xor iV List.mapIdx_cons List.mapIdx_nil cL Gr Gm Gn Gs Gq Gp xD ite_self newD Option.getD_some Option.getD_none B6 B5 B4 B2 xy xx xw if_pos if_true if_false List.all_cons List.all_nil Option.isNone_none Bool.and_true Bool.true_and decide_eq_true_eq not_true not_false_iff reduceCtorEq"),*])
def EL:S3:=fun Γ Q=>∃ h w:Int,Γ=[some (.fz (.int h)),some (.fz (.int w))]∧Ie h w∧Q (.fz (.bl true)) Γ
theorem xf (T:Txt K mg a):aY P w K mg base CX0 2 a.oG a.mn ["height","width"] (sp3 K 2 EL):=by
 refine ok3 T.s_ wO (hbody:=fun cdv A outer s H E hr=>⟨_,_,(ao (cJ (P3W.pt (n9 (cf (cc (ar (by rfl) (ki T) (hr.mono (by decide)) (by rfl) T.mf T.jU.kp T.mB (aa (P3.opd (p3v 0)) (aa (P3.opd af) (aa (P3.opd (jy (i:=64) (by rfl) T.ix)) ae)))))) (lr (cf (cc (ar (by rfl) (ki T) (hr.mono (by decide)) (by rfl) T.mf T.jU.kp T.mB (aa (P3.opd (p3v 1)) (aa (P3.opd af) (aa (P3.opd (jy (i:=64) (by rfl) T.ix)) ae))))))))) (aq (au gj)) bF)
   (aq (au (fJ q9 (P3.opd (fI (bv 0) (bv 1))) (P3.opd (jy (i:=512) (by rfl) T.rT)) (bW _))))),fun Γa Q h hl=>?_⟩)
 obtain⟨h,w,rfl,⟨a1,a2,a3,a4,a5⟩,q⟩:=h
 walk_at "x7"
 refine⟨_,_,_,rfl,rfl,?_⟩
 rw[show whD (.int h) 1 64=true by simp only[whD,Bool.and_eq_true,decide_eq_true_eq];omega]
 walk_at "x7"
 refine⟨_,_,_,rfl,rfl,?_⟩
 rw[show whD (.int w) 1 64=true by simp only[whD,Bool.and_eq_true,decide_eq_true_eq];omega]
 walk_at "x7"
 refine⟨.inl ⟨by omega,by omega⟩,?_⟩
 rw[show oF (h * w) 512=true by simp only[oF,decide_eq_true_eq];exact a5]
 exact q
theorem t9 (T:Txt K mg a):aY P w K mg base CX0 1 a.kG a.jE ["letter","height","width"] (sp3 K 3 HN):=by
 refine ok3 T.pG tO (hbody:=fun cdv A outer s H E hr=>⟨_,_,(ao (cJ (P3W.pt (yc (b9 (sR (by rfl)) (bv 0) (P3.opd (ly (p:=a.cQ) (zs:=["r","b"]) (by rfl) T.jR)) (by with_unfolding_all rfl)) (vw (b9 sQ (bv 2) (P3.opd af) (bW _))))) (aq (au gj)) bF)
   (ao (cJ (P3W.pt (yc (b9 (sR (by rfl)) (bv 0) (P3.opd (ly (p:=a.bU) (zs:=["p","b"]) (by rfl) T.gF)) (by with_unfolding_all rfl)) (vw (b9 sQ (bv 1) (P3.opd af) (bW _))))) (aq (au gj)) bF)
   (aq (au (D0 (fJ (sR (by rfl)) (bv 0) (P3.opd (ly (p:=a.cQ) (zs:=["r","b"]) (by rfl) T.jR)) (by with_unfolding_all rfl)) (w6 (fJ (sR (by rfl)) (bv 0) (P3.opd (ly (p:=a.bU) (zs:=["p","b"]) (by rfl) T.gF)) (by with_unfolding_all rfl)))))))),fun Γa Q h hl=>?_⟩)
 obtain⟨l,h,w,rfl,⟨c1,c2⟩,q⟩:=h
 walk_at "x7"
 have e1:l≠.p→qP w 2=false:=fun z=>by have:=c1 z;simp only[qP,decide_eq_false_iff_not];omega
 have e2:l≠.r→qP h 2=false:=fun z=>by have:=c2 z;simp only[qP,decide_eq_false_iff_not];omega
 cases l
 ·rw[e1 (by decide)]
  exact q
 ·rw[e2 (by decide)]
  exact q
 ·rw[e1 (by decide),e2 (by decide)]
  exact q
def Ge:S3:=fun Γ Q=>∃ (h w:Int) (ls:List Lt),Γ=[some (.fz (.int h)),some (.fz (.int w)),some (.fz (.str (wy ls)))]∧Good h w ls∧ls.length≤10∧Q (.fz (.tup ((j_ h w ls).map cD))) Γ
theorem oM {h w:Int} {ls:List Lt} {k:Nat} (hk:k < ls.length):((j_ h w ls).take (k + 1)).map cD++[cD (cat h w ls (k + 1))]=((j_ h w ls).take (k + 2)).map cD:=by
 have e:(j_ h w ls).take (k + 1 + 1)=(j_ h w ls).take (k + 1)++[cat h w ls (k + 1)]:=by
  conv=>lhs;rw[List.take_succ]
  rw[yB (by omega)];rfl
 show _=((j_ h w ls).take (k + 1 + 1)).map cD
 rw[e,List.map_append];rfl
theorem Dm {ls:List Lt} {k:Nat} {d:D} (h:(ls.map fun l=>D.str l.s)[k]?=some d):∃ l,ls[k]?=some l∧d=.str l.s:=by
 rw[List.getElem?_map] at h
 cases q:ls[k]? with
 | none=>rw[q] at h;cases h
 | some l=>rw[q] at h;cases h;exact⟨l,rfl,rfl⟩
theorem ox {α:Type} {l:List α} {k:Nat} {a:α} (h:l[k]?=some a):k < l.length:=(List.getElem?_eq_some_iff.mp h).1
theorem rP (T:Txt K mg a):aY P w K mg base CX0 2 a.jN a.iE ["height","width","way"] (sp3 K 3 Ge):=by
 refine ok3 T.nX eH (hbody:=fun cdv A outer s H E hr=>⟨_,_,(ao (cJ (cf (cc (aB (HP T.tys) (by rfl) T.z_isinstance (by decide +kernel) (aa (bv 2) (aa (P3.opd (yd (n:="str") (by rfl) T.z_str (by decide +kernel))) ae))))) (aq iP) bF)
   (ao (bI (i:=3) eH.nd rfl (Or.inl rfl) (ck (ag (n_ (ag (p3v 0) (ag (p3v 1) aA))) aA)))
   (ao (ju PassesOwn.never rfl (FX (p3v 2)) (cM (i:=4) eH.nd rfl (Or.inl rfl))
   (ao (cJ (cf (cc (ar (by rfl) (t9 T) (hr.mono (by decide)) (by rfl) T.vI T.pG.kp T.wj (aa (P3.opd (p3v 4)) (aa (P3.opd (p3v 0)) (aa (P3.opd (p3v 1)) ae)))))) (aq iP) bF)
   (ao (cJ (b9 (sR (by rfl)) (bv 4) (P3.opd (ly (p:=a.cQ) (zs:=["r","b"]) (by rfl) T.jR)) (by with_unfolding_all rfl)) (aq (bI (i:=1) eH.nd rfl (Or.inl rfl) (eu (P3.opd (br (bv 1) (P3.opd af))) (P3.opd af)))) bF)
   (ao (cJ (b9 (sR (by rfl)) (bv 4) (P3.opd (ly (p:=a.bU) (zs:=["p","b"]) (by rfl) T.gF)) (by with_unfolding_all rfl)) (aq (bI (i:=0) eH.nd rfl (Or.inl rfl) (eu (P3.opd (br (bv 0) (P3.opd af))) (P3.opd af)))) bF)
   (aq (lp (lz 3 (by rfl) (bv 3) (n_ (ag (p3v 0) (ag (p3v 1) aA))))))))))
   (aq (au (bZ (DB (by rfl)) (by rfl) T.z_tuple (by decide +kernel) (aa (bv 3) ae))))))),fun Γa Q h hl=>?_⟩)
 obtain⟨h,w,ls,rfl,g,hls,q⟩:=h
 walk_at "x7"
 refine⟨by rw[sizeLine_eq];omega,by rw[sizeLine_eq];omega,?_⟩
 rw[qN]
 walk_at "x7"
 refine⟨EA ls,fun k Γ=>k≤ls.length∧∃ s,Γ=[some (.fz (.int (cat h w ls k).1)),some (.fz (.int (cat h w ls k).2)),some (.fz (.str (wy ls))),some (.ow (.lst (((j_ h w ls).take (k + 1)).map cD))),fo s],⟨Nat.zero_le _,none,by rw[v_];cases ls <;> rfl⟩,?_,?_⟩
 ·rintro k d Γ hd ⟨hk,s,rfl⟩
  rw[u5] at hd
  obtain⟨l,hl,rfl⟩:=Dm hd
  have lt:=ox hl
  walk_at "x7"
  refine⟨l,_,_,rfl,yt g hl,?_⟩
  walk_at "x7"
  have st:=v8 (h:=h) (w:=w) hl
  have tk:((j_ h w ls).take (k + 1)).length≤11:=by rw[List.length_take,nI];omega
  have z1:(2:Nat)≤sizeLine:=by rw[sizeLine_eq];omega
  have z2:(((j_ h w ls).take (k + 1)).map cD).length < sizeLine:=by rw[List.length_map,sizeLine_eq];omega
  cases l
  ·rw[show (!Lt.r == Lt.p)=true from rfl,show (!Lt.r == Lt.r)=false from rfl]
   have st':cat h w ls (k + 1)=((cat h w ls k).1,((cat h w ls k).2 + 1) / 2):=st
   exact⟨⟨by decide,by decide⟩,z1,z2,lt,by rw[st'],by rw[st'],by rw[← oM lt,st'];rfl,some _,rfl⟩
  ·rw[show (!Lt.p == Lt.p)=false from rfl,show (!Lt.p == Lt.r)=true from rfl]
   have st':cat h w ls (k + 1)=(((cat h w ls k).1 + 1) / 2,(cat h w ls k).2):=st
   exact⟨⟨by decide,by decide⟩,z1,z2,lt,by rw[st'],by rw[st'],by rw[← oM lt,st'];rfl,some _,rfl⟩
  ·rw[show (!Lt.b == Lt.p)=true from rfl,show (!Lt.b == Lt.r)=true from rfl]
   have st':cat h w ls (k + 1)=(((cat h w ls k).1 + 1) / 2,((cat h w ls k).2 + 1) / 2):=st
   exact⟨⟨by decide,by decide⟩,⟨by decide,by decide⟩,z1,z2,lt,by rw[st'],by rw[st'],by rw[← oM lt,st'];rfl,some _,rfl⟩
 ·rintro Γ ⟨hk,s,rfl⟩
  walk_at "x7"
  rw[u5,List.length_map,List.take_of_length_le (by rw[nI];omega)]
  exact q
def E9 (a:Ad):S3:=fun Γ Q=>∃ (R:Rl) (h w:Int) (ls:List Lt),Γ=[some (.ln (.ins a.b_ [] [])),some (.fz (.int h)),some (.fz (.int w)),some (.fz (.str R.word)),some (.fz (.str (wy ls)))]∧Ie h w∧Good h w ls∧ls.length≤10∧
 Q (.fz .non) [some (.ln (plD a R h w ls)),some (.fz (.int h)),some (.fz (.int w)),some (.fz (.str R.word)),some (.fz (.str (wy ls)))]
theorem oh (T:Txt K mg a):aY P w K mg base CX0 3 a.gE a.fL ["self","height","width","word","way"] (sp3 K 5 (E9 a)):=by
 refine ok3 T.p9 n8 (hbody:=fun cdv A outer s H E hr=>⟨_,_,(ao (cJ (cf (cc (ar (by rfl) (xf T) (hr.mono (by decide)) (by rfl) T.zk T.s_.kp T.zG (aa (P3.opd (p3v 1)) (aa (P3.opd (p3v 2)) ae))))) (aq iP) bF)
   (ao (tW (C0:=a.b_) 0 (by rfl) T.lC T.kn (bv 0) (ar (by rfl) (jz T) (hr.mono (by decide)) (by rfl) T.lB T.jn.kp T.lD (aa (P3.opd (p3v 3)) ae)))
   (ao (tW (C0:=a.b_) 0 (by rfl) T.lC T.pW (bv 0) (ar (by rfl) (rP T) (hr.mono (by decide)) (by rfl) T.ui T.nX.kp T.uQ (aa (P3.opd (p3v 1)) (aa (P3.opd (p3v 2)) (aa (P3.opd (p3v 4)) ae)))))
   (aq (tW (C0:=a.b_) 0 (by rfl) T.lC T.pV (bv 0) (p3v 4)))))),fun Γa Q h hl=>?_⟩)
 obtain⟨R,h,w,ls,rfl,sz,g,hls,q⟩:=h
 walk_at "x7"
 refine⟨h,w,rfl,sz,?_⟩
 walk_at "x7"
 refine⟨R,rfl,?_⟩
 walk_at "x7"
 refine⟨by decide,h,w,ls,rfl,g,hls,?_⟩
 walk_at "x7"
 exact⟨by decide +kernel,by decide,by decide +kernel,by decide,q⟩
def EM (a:Ad) (f:Rl→Int→Int→List Lt→D):S3:=fun Γ Q=>∃ (R:Rl) (h w:Int) (ls:List Lt),Γ=[some (.fz (plD a R h w ls))]∧ls.length≤10∧Q (.fz (f R h w ls)) Γ
theorem mZ (T:Txt K mg a):aY P w K mg base CX0 1 a.kN a.jM ["self"] (sp3 K 1 (EM a fun R _ _ _=>R.ob a)):=by
 refine ok3 T.wB tV (hbody:=fun cdv A outer s H E hr=>⟨_,_,(aq (au (C2 (f:="chosen") (by rfl) (bv 0) T.lC T.kn))),fun Γa Q h hl=>?_⟩)
 obtain⟨R,h,w,ls,rfl,hls,q⟩:=h
 walk_at "x7"
 exact q
def Rl.two (R:Rl) (t g:Int):List Int:=match R with
 | .sum=>[(t + g) / 2,t - (t + g) / 2]
 | _=>[t + (g + 1) / 2,t + (g + 1) / 2 - g]
def Rl.one (R:Rl) (t:Int):Int:=match R with
 | .sum=>t / 2
 | _=>t
def DU (f:Int→Int→List Int):S3:=fun Γ Q=>∃ (d:D) (x y:Int),Γ=[some (.fz d),some (.fz (.int x)),some (.fz (.int y))]∧Q (.fr (il (f x y))) Γ
theorem pT (T:Txt K mg a):aY P w K mg base CX0 1 a.ft a.gA ["self","total","gap"] (sp3 K 3 (DU Rl.sum.two)):=by
 refine ok3 T.rF jX (hbody:=fun cdv A outer s H E hr=>⟨_,_,(ao (bI (i:=3) jX.nd rfl (Or.inl rfl) (eu (P3.opd (br (bv 1) (bv 2))) (P3.opd af)))
   (aq (au (ck (ag (p3v 3) (ag (da (bv 1) (bv 3)) aA)))))),fun Γa Q h hl=>?_⟩)
 obtain⟨d,x,y,rfl,q⟩:=h
 walk_at "x7"
 exact⟨⟨by decide,by decide⟩,by rw[sizeLine_eq];omega,q⟩
theorem ir (T:Txt K mg a):aY P w K mg base CX0 1 a.ey a.ff ["self","total","gap"] (sp3 K 3 (DU Rl.half.two)):=by
 refine ok3 T.o7 ik (hbody:=fun cdv A outer s H E hr=>⟨_,_,(ao (bI (i:=3) ik.nd rfl (Or.inl rfl) (br (bv 1) (P3.opd (eu (P3.opd (br (bv 2) (P3.opd af))) (P3.opd af)))))
   (aq (au (ck (ag (p3v 3) (ag (da (bv 3) (bv 2)) aA)))))),fun Γa Q h hl=>?_⟩)
 obtain⟨d,x,y,rfl,q⟩:=h
 walk_at "x7"
 exact⟨⟨by decide,by decide⟩,by rw[sizeLine_eq];omega,q⟩
theorem pU (T:Txt K mg a):aY P w K mg base CX0 1 a.fu a.gB ["self","total"] (sp3 K 2 (Ds Rl.sum.one)):=by
 refine ok3 T.rG pP (hbody:=fun cdv A outer s H E hr=>⟨_,_,(aq (au (eu (bv 1) (P3.opd af)))),fun Γa Q h hl=>?_⟩)
 obtain⟨d,x,rfl,q⟩:=h
 walk_at "x7"
 exact⟨⟨by decide,by decide⟩,q⟩
theorem iu (T:Txt K mg a):aY P w K mg base CX0 1 a.ez a.fh ["self","total"] (sp3 K 2 (Ds Rl.half.one)):=by
 refine ok3 T.o8 mQ (hbody:=fun cdv A outer s H E hr=>⟨_,_,(aq (au (vx 1))),fun Γa Q h hl=>?_⟩)
 obtain⟨d,x,rfl,q⟩:=h
 walk_at "x7"
 exact q
def dX (f:Int→Int→List Int) (S G:List Int) (k:Nat):List Int:=((List.range k).map fun j=>f (S.getD j 0) (G.getD j 0)).flatten
theorem ip {f:Int→Int→List Int} {S G:List Int} {k:Nat}:dX f S G k++f (S.getD k 0) (G.getD k 0)=dX f S G (k + 1):=by
 unfold dX
 rw[List.range_succ,List.map_append,List.flatten_append];simp
theorem c_ {f:Int→Int→List Int} (hf:∀ x y,(f x y).length=2) {S G:List Int}:∀ k:Nat,(dX f S G k).length=2 * k
 | 0=>by simp [dX]
 | k + 1=>by rw[← ip,List.length_append,c_ hf k,hf];omega
theorem lg (R:Rl) (x y:Int):(R.two x y).length=2:=by cases R <;> rfl
def dd (R:Rl) (S G:List Int):List Int:=dX R.two S G G.length++(if S.length=G.length then [] else [R.one (S.getD (S.length - 1) 0)])
def Cu (a:Ad):S3:=fun Γ Q=>∃ (R:Rl) (S G:List Int),Γ=[some (.fz (R.ob a)),some (.fz (il S)),some (.fz (il G))]∧R≠.guess∧G.length≤S.length∧S.length≤G.length + 1∧1≤G.length∧S.length≤64∧Q (.fr (il (dd R S G))) Γ
theorem gT (T:Txt K mg a):aY P w K mg base CX0 2 a.dF a.gZ ["self","sums","gaps"] (sp3 K 3 (Cu a)):=by
 refine ok3 T.rW eU (hbody:=fun cdv A outer s H E hr=>⟨_,_,(ao (bI (i:=3) eU.nd rfl (Or.inl rfl) (ck aA))
   (ao (ju PassesOwn.never rfl (kr (by rfl) T.z_zip (ag (p3v 1) (ag (p3v 2) aA))) (gy (is:=[4,5]) (by rfl) (aS (bc (i:=4) eU.nd rfl (Or.inl rfl)) (aS (bc (i:=5) eU.nd rfl (Or.inl rfl)) dq)) rfl)
   (aq (lp (sA 3 (by rfl) (bv 3) (P3.opd (P3.or (av (by rfl) (bv 0) T.cN T.pY (pT T) (hr.mono (by decide)) T.rz (aa (P3.opd (p3v 4)) (aa (P3.opd (p3v 5)) ae))) (P3.or (av (by rfl) (bv 0) T.bA T.nu (ir T) (hr.mono (by decide)) T.jh (aa (P3.opd (p3v 4)) (aa (P3.opd (p3v 5)) ae))) (av (by rfl) (bv 0) T.bu T.md (ir T) (hr.mono (by decide)) T.jh (aa (P3.opd (p3v 4)) (aa (P3.opd (p3v 5)) ae))))))))))
   (ao (cJ (b9 BX (P3.opd (aB (dn (by rfl)) (by rfl) T.z_len (by decide +kernel) (aa (bv 1) ae))) (P3.opd (aB (dn (by rfl)) (by rfl) T.z_len (by decide +kernel) (aa (bv 2) ae))) (bW _)) (aq (lp (lz 3 (by rfl) (bv 3) (P3.or (av (by rfl) (bv 0) T.cN T.pZ (pU T) (hr.mono (by decide)) T.rA (aa (P3.opd (cu (by rfl) (bv 1) (P3.opd (kh (P3.opd af))) (fun _ _=>rfl))) ae)) (P3.or (av (by rfl) (bv 0) T.bA T.nv (iu T) (hr.mono (by decide)) T.ji (aa (P3.opd (cu (by rfl) (bv 1) (P3.opd (kh (P3.opd af))) (fun _ _=>rfl))) ae)) (av (by rfl) (bv 0) T.bu T.me (iu T) (hr.mono (by decide)) T.ji (aa (P3.opd (cu (by rfl) (bv 1) (P3.opd (kh (P3.opd af))) (fun _ _=>rfl))) ae))))))) bF)
   (aq (au (vx 3)))))),fun Γa Q h hl=>?_⟩)
 obtain⟨R,S,G,rfl,hR,h1,h2,h3,h4,q⟩:=h
 walk_at "x7"
 refine⟨by rw[sizeLine_eq];omega,?_⟩
 rw[qN]
 walk_at "x7"
 have pl:=c_ (f:=R.two) (lg R) (S:=S) (G:=G)
 refine⟨fun k Γ=>k≤G.length∧∃ s s',Γ=[some (.fz (R.ob a)),some (.fz (il S)),some (.fz (il G)),some (.ow (il (dX R.two S G k))),fo s,fo s'],⟨by omega,none,none,rfl⟩,?_,?_⟩
 ·rintro k d Γ hd ⟨hk,s,s',rfl⟩
  obtain⟨l1,l2,rfl⟩:=zip_get hd
  walk_at "x7"
  have sz:(List.map D.int (dX R.two S G k)).length + (List.map D.int (R.two (S.getD k 0) (G.getD k 0))).length≤sizeLine:=by rw[List.length_map,List.length_map,pl,lg,sizeLine_eq];omega
  have fin:List.map D.int (dX R.two S G k)++List.map D.int (R.two (S.getD k 0) (G.getD k 0))=List.map D.int (dX R.two S G (k + 1)):=by rw[← ip,List.map_append]
  cases R with
  | guess=>exact absurd rfl hR
  | sum=>
   refine .inl ?_
   walk_at "x7"
   refine⟨rfl,_,_,_,rfl,?_⟩
   walk_at "x7"
   exact⟨sz,l2,by rw[fin],⟨some _,rfl⟩,⟨some _,rfl⟩⟩
  | half=>
   refine .inr (.inl ?_)
   walk_at "x7"
   refine⟨rfl,_,_,_,rfl,?_⟩
   walk_at "x7"
   exact⟨sz,l2,by rw[fin],⟨some _,rfl⟩,⟨some _,rfl⟩⟩
  | lean=>
   refine .inr (.inr ?_)
   walk_at "x7"
   refine⟨rfl,_,_,_,rfl,?_⟩
   walk_at "x7"
   exact⟨sz,l2,by rw[il,← fin];rfl,⟨some _,rfl⟩,⟨some _,rfl⟩⟩
 ·rintro Γ ⟨hk,s,s',rfl⟩
  rw[gK,show min S.length G.length=G.length by omega]
  walk_at "x7"
  rw[List.length_map,List.length_map]
  by_cases e:S.length=G.length
  ·rw[show qR (S.length:Int) (G.length:Int)=false by simp only[qR,decide_eq_false_iff_not];omega]
   have e2:dd R S G=dX R.two S G G.length:=by unfold dd;rw[if_pos e,List.append_nil]
   rw[e2] at q
   exact q
  ·rw[show qR (S.length:Int) (G.length:Int)=true by simp only[qR,decide_eq_true_eq];omega]
   have e2:dd R S G=dX R.two S G G.length++[R.one (S.getD (S.length - 1) 0)]:=by unfold dd;rw[if_neg e]
   rw[e2,il,List.map_append] at q
   have sz:(List.map D.int (dX R.two S G G.length)).length < sizeLine:=by rw[List.length_map,pl,sizeLine_eq];omega
   dsimp only
   cases R with
   | guess=>exact absurd rfl hR
   | sum=>
    refine .inl ⟨rfl,gH.mpr ⟨_,hX (by omega),?_⟩⟩
    walk_at "x7"
    refine⟨_,_,rfl,?_⟩
    walk_at "x7"
    exact⟨sz,q⟩
   | half=>
    refine .inr (.inl ⟨rfl,gH.mpr ⟨_,hX (by omega),?_⟩⟩)
    walk_at "x7"
    refine⟨_,_,rfl,?_⟩
    walk_at "x7"
    exact⟨sz,q⟩
   | lean=>
    refine .inr (.inr ⟨rfl,gH.mpr ⟨_,hX (by omega),?_⟩⟩)
    walk_at "x7"
    refine⟨_,_,rfl,?_⟩
    walk_at "x7"
    exact⟨sz,q⟩
def zI:S3:=fun Γ Q=>∃ (S D:List Int),Γ=[some (.fz (il S)),some (.fz (il D))]∧Fig S∧Fig D∧1≤D.length∧D.length≤S.length∧S.length≤D.length + 1∧S.length + D.length≤64∧Q (.fz (.bl true)) Γ
theorem rQ (T:Txt K mg a):aY P w K mg base CX0 4 a.jO a.iF ["sums","differences"] (sp3 K 2 zI):=by
 refine ok3 T.nY rN (hbody:=fun cdv A outer s H E hr=>⟨_,_,(ao (cJ (P3W.pt (n9 (cf (cc (ar (by rfl) (og T) (hr.mono (by decide)) (by rfl) T.qL T.nW.kp T.rn (aa (P3.opd (p3v 1)) (aa (P3.opd af) ae))))) (lr (cf (cc (ar (by rfl) (og T) (hr.mono (by decide)) (by rfl) T.qL T.nW.kp T.rn (aa (P3.opd (p3v 0)) (aa (P3.opd (aB (dn (by rfl)) (by rfl) T.z_len (by decide +kernel) (aa (bv 1) ae))) ae)))))))) (aq (au gj)) bF)
   (aq (au (Fm (fJ q9 (P3.opd (aB (dn (by rfl)) (by rfl) T.z_len (by decide +kernel) (aa (bv 0) ae))) (P3.opd (br (P3.opd (aB (dn (by rfl)) (by rfl) T.z_len (by decide +kernel) (aa (bv 1) ae))) (P3.opd af))) (bW _)) (w6 (fJ q9 (P3.opd (br (P3.opd (aB (dn (by rfl)) (by rfl) T.z_len (by decide +kernel) (aa (bv 0) ae))) (P3.opd (aB (dn (by rfl)) (by rfl) T.z_len (by decide +kernel) (aa (bv 1) ae))))) (P3.opd (jy (i:=64) (by rfl) T.ix)) (bW _))))))),fun Γa Q h hl=>?_⟩)
 obtain⟨S,D,rfl,f1,f2,h1,h2,h3,h4,q⟩:=h
 walk_at "x7"
 refine⟨D,1,rfl,f2,by omega,by omega,?_⟩
 walk_at "x7"
 refine⟨S,D.length,by rw[List.length_map],f1,by omega,by omega,?_⟩
 walk_at "x7"
 rw[List.length_map,List.length_map,show oF (S.length:Int) ((D.length:Int) + 1)=true by simp only[oF,decide_eq_true_eq];omega,show oF ((S.length:Int) + (D.length:Int)) 64=true by simp only[oF,decide_eq_true_eq];omega]
 exact q
def eP (F S:List Int):List Int:=dX (fun x y=>[x,y]) F S S.length++F.drop S.length
def Cb:S3:=fun Γ Q=>∃ (F S:List Int),Γ=[some (.fz (il F)),some (.fz (il S))]∧S.length≤F.length∧F.length≤64∧Q (.fr (il (eP F S))) Γ
theorem vX {F:List Int} {n:Nat} (h:n≤F.length):cut (F.map D.int) (some (n:Int)) none=(F.drop n).map D.int:=by
 have e:HT.sIx (F.map D.int).length 0 (some (n:Int))=n:=by
  simp only[HT.sIx,List.length_map]
  split <;> omega
 unfold cut
 rw[e,show HT.sIx (F.map D.int).length (F.map D.int).length none=F.length by simp [HT.sIx]]
 rw[List.take_of_length_le (by simp),List.map_drop]
theorem AL (T:Txt K mg a):aY P w K mg base CX0 1 a.uA a.qO ["firsts","seconds"] (sp3 K 2 Cb):=by
 refine ok3 T.yP mP (hbody:=fun cdv A outer s H E hr=>⟨_,_,(ao (bI (i:=2) mP.nd rfl (Or.inl rfl) (ck aA))
   (ao (ju PassesOwn.never rfl (kr (by rfl) T.z_zip (ag (p3v 0) (ag (p3v 1) aA))) (gy (is:=[3,4]) (by rfl) (aS (bc (i:=3) mP.nd rfl (Or.inl rfl)) (aS (bc (i:=4) mP.nd rfl (Or.inl rfl)) dq)) rfl)
   (aq (lp (sA 2 (by rfl) (bv 2) (P3.opd (ck (ag (p3v 3) (ag (p3v 4) aA))))))))
   (aq (au (br (bv 2) (P3.opd (mU (by rfl) (bv 0) (dg (P3.opd (aB (dn (by rfl)) (by rfl) T.z_len (by decide +kernel) (aa (bv 1) ae)))) gS))))))),fun Γa Q h hl=>?_⟩)
 obtain⟨F,S,rfl,h1,h2,q⟩:=h
 walk_at "x7"
 refine⟨by rw[sizeLine_eq];omega,?_⟩
 rw[qN]
 walk_at "x7"
 have pl:=c_ (f:=fun x y=>[x,y]) (fun _ _=>rfl) (S:=F) (G:=S)
 refine⟨fun k Γ=>k≤S.length∧∃ s s',Γ=[some (.fz (il F)),some (.fz (il S)),some (.ow (il (dX (fun x y=>[x,y]) F S k))),fo s,fo s'],⟨by omega,none,none,rfl⟩,?_,?_⟩
 ·rintro k d Γ hd ⟨hk,s,s',rfl⟩
  obtain⟨l1,l2,rfl⟩:=zip_get hd
  walk_at "x7"
  refine⟨by rw[sizeLine_eq];omega,by rw[List.length_map,pl,sizeLine_eq];omega,l2,?_,⟨some _,rfl⟩,⟨some _,rfl⟩⟩
  rw[← ip,il,List.map_append];rfl
 ·rintro Γ ⟨hk,s,s',rfl⟩
  rw[gK,show min F.length S.length=S.length by omega]
  walk_at "x7"
  simp only[List.length_map]
  rw[vX h1]
  refine⟨by rw[List.length_map,pl,List.length_drop,sizeLine_eq];omega,?_⟩
  rw[← List.map_append]
  exact q
def A7 (S D:List Int):List Int:=eP (rg (fun j=>S.getD j 0 - cx D j) S.length) (rg (fun j=>D.getD j 0 + eK (rg (fun j=>S.getD j 0 - cx D j) S.length) j) D.length)
def eA (R:Rl) (S D:List Int):List Int:=match R with
 | .guess=>A7 S D
 | .lean=>dd .lean S (rg (fun j=>D.getD j 0 + dZ S j) D.length)
 | R=>dd R S D
def xv (a:Ad) (ok:Rl→Prop):S3:=fun Γ Q=>∃ (R:Rl) (S D:List Int),Γ=[some (.fz (R.ob a)),some (.fz (il S)),some (.fz (il D))]∧ok R∧1≤D.length∧D.length≤S.length∧S.length≤D.length + 1∧S.length + D.length≤64∧Q (.fr (il (eA R S D))) Γ
theorem kl (T:Txt K mg a):aY P w K mg base CX0 3 a.gg a.g5 ["self","sums","differences"] (sp3 K 3 (xv a fun R=>R=.sum∨R=.half)):=by
 refine ok3 T.rY qp (hbody:=fun cdv A outer s H E hr=>⟨_,_,(aq (au (P3.or (av (by rfl) (bv 0) T.cN T.qG (gT T) (hr.mono (by decide)) T.iM (aa (P3.opd (p3v 1)) (aa (P3.opd (p3v 2)) ae))) (av (by rfl) (bv 0) T.bA T.oi (gT T) (hr.mono (by decide)) T.iM (aa (P3.opd (p3v 1)) (aa (P3.opd (p3v 2)) ae)))))),fun Γa Q h hl=>?_⟩)
 obtain⟨R,S,D,rfl,hR,h1,h2,h3,h4,q⟩:=h
 walk_at "x7"
 rcases hR with rfl | rfl
 ·exact .inl ⟨rfl,.sum,S,D,rfl,by simp,h2,h3,h1,by omega,q⟩
 ·exact .inr ⟨rfl,.half,S,D,rfl,by simp,h2,h3,h1,by omega,q⟩
theorem m7 (T:Txt K mg a):aY P w K mg base CX0 3 a.fR a.fk ["self","sums","differences"] (sp3 K 3 (xv a (·=.guess))):=by
 refine ok3 T.o_ eV (hbody:=fun cdv A outer s H E hr=>⟨_,_,(ao (dW (i:=3) eV.nd rfl rfl rfl (kr (by rfl) T.z_zip (ag (p3v 1) (ag (ar (by rfl) (vA T) (hr.mono (by decide)) (by rfl) T.yi T.uY.kp T.yG (aa (P3.opd (p3v 2)) (aa (P3.opd (aB (dn (by rfl)) (by rfl) T.z_len (by decide +kernel) (aa (bv 1) ae))) ae))) aA))) eg (fun _ _ _ _ _=>(gy (is:=[0,1]) (by rfl) (aS (bc (i:=0) eg.nd rfl (Or.inl rfl)) (aS (bc (i:=1) eg.nd rfl (Or.inl rfl)) dq)) rfl)) (fun _ _ _ _ _=>(da (bv 0) (bv 1))))
   (ao (dW (i:=4) eV.nd rfl rfl rfl (kr (by rfl) T.z_zip (ag (p3v 2) (ag (ar (by rfl) (qB T) (hr.mono (by decide)) (by rfl) T.sD T.oZ.kp T.sX (aa (P3.opd (p3v 3)) (aa (P3.opd (aB (dn (by rfl)) (by rfl) T.z_len (by decide +kernel) (aa (bv 2) ae))) ae))) aA))) eh (fun _ _ _ _ _=>(gy (is:=[0,1]) (by rfl) (aS (bc (i:=0) eh.nd rfl (Or.inl rfl)) (aS (bc (i:=1) eh.nd rfl (Or.inl rfl)) dq)) rfl)) (fun _ _ _ _ _=>(br (bv 0) (bv 1))))
   (aq (au (ar (by rfl) (AL T) (hr.mono (by decide)) (by rfl) T.Dh T.yP.kp T.DF (aa (P3.opd (p3v 3)) (aa (P3.opd (p3v 4)) ae))))))),fun Γa Q h hl=>?_⟩)
 obtain⟨R,S,Df,rfl,hR,h1,h2,h3,h4,q⟩:=h
 subst hR
 walk_at "x7"
 unfold yA pj
 walk_at "x7"
 refine⟨Df,S.length,by rw[List.length_map],h1,trivial,by omega,?_⟩
 walk_at "x7"
 have z1:(iA (S.map D.int) ((rg (cx Df) S.length).map D.int)).length=S.length:=by rw[gK,ba];omega
 refine⟨small (by rw[z1];omega),fun k ys Γc=>ys=(List.range k).map (fun j=>D.int (S.getD j 0 - cx Df j))∧∃ s s',Γc=[fo s,fo s'],⟨rfl,none,none,rfl⟩,?_,?_⟩
 ·rintro k d ys Γc hd hk ⟨rfl,s,s',rfl⟩
  obtain⟨l1,l2,rfl⟩:=zip_get hd
  rw[ba] at l2
  walk_at "x7"
  exact⟨snoc (by rw[cP _ l2]),⟨some _,rfl⟩,⟨some _,rfl⟩⟩
 ·rintro ys Γc hk ⟨rfl,s,s',rfl⟩
  rw[z1,iS]
  walk_at "x7"
  refine⟨rg (fun j=>S.getD j 0 - cx Df j) S.length,Df.length,by rw[List.length_map];rfl,by rw[ba];omega,by rw[ba];omega,by omega,?_⟩
  walk_at "x7"
  have z3:(iA (Df.map D.int) ((rg (eK (rg (fun j=>S.getD j 0 - cx Df j) S.length)) Df.length).map D.int)).length=Df.length:=by rw[gK,ba];omega
  refine⟨small (by rw[z3];omega),fun k ys Γc=>ys=(List.range k).map (fun j=>D.int (Df.getD j 0 + eK (rg (fun j=>S.getD j 0 - cx Df j) S.length) j))∧∃ s s',Γc=[fo s,fo s'],⟨rfl,none,none,rfl⟩,?_,?_⟩
  ·rintro k d ys Γc hd hk ⟨rfl,s,s',rfl⟩
   obtain⟨l1,l2,rfl⟩:=zip_get hd
   rw[ba] at l2
   walk_at "x7"
   exact⟨snoc (by rw[cP _ l2]),⟨some _,rfl⟩,⟨some _,rfl⟩⟩
  ·rintro ys Γc hk ⟨rfl,s,s',rfl⟩
   rw[z3,iS]
   walk_at "x7"
   exact⟨_,_,rfl,by simp;omega,by simp;omega,q⟩
theorem m5 (T:Txt K mg a):aY P w K mg base CX0 3 a.fP a.fe ["self","sums","differences"] (sp3 K 3 (xv a (·=.lean))):=by
 refine ok3 T.o6 ij (hbody:=fun cdv A outer s H E hr=>⟨_,_,(ao (dW (i:=3) ij.nd rfl rfl rfl (kr (by rfl) T.z_zip (ag (p3v 2) (ag (ar (by rfl) (vB T) (hr.mono (by decide)) (by rfl) T.yj T.uZ.kp T.yH (aa (P3.opd (p3v 1)) (aa (P3.opd (aB (dn (by rfl)) (by rfl) T.z_len (by decide +kernel) (aa (bv 2) ae))) ae))) aA))) d9 (fun _ _ _ _ _=>(gy (is:=[0,1]) (by rfl) (aS (bc (i:=0) d9.nd rfl (Or.inl rfl)) (aS (bc (i:=1) d9.nd rfl (Or.inl rfl)) dq)) rfl)) (fun _ _ _ _ _=>(br (bv 0) (bv 1))))
   (aq (au (av (by rfl) (bv 0) T.bu T.nc (gT T) (hr.mono (by decide)) T.iM (aa (P3.opd (p3v 1)) (aa (P3.opd (p3v 3)) ae)))))),fun Γa Q h hl=>?_⟩)
 obtain⟨R,S,Df,rfl,hR,h1,h2,h3,h4,q⟩:=h
 subst hR
 walk_at "x7"
 unfold yA pj
 walk_at "x7"
 refine⟨S,Df.length,by rw[List.length_map],by omega,trivial,by omega,?_⟩
 walk_at "x7"
 have z1:(iA (Df.map D.int) ((rg (dZ S) Df.length).map D.int)).length=Df.length:=by rw[gK,ba];omega
 refine⟨small (by rw[z1];omega),fun k ys Γc=>ys=(List.range k).map (fun j=>D.int (Df.getD j 0 + dZ S j))∧∃ s s',Γc=[fo s,fo s'],⟨rfl,none,none,rfl⟩,?_,?_⟩
 ·rintro k d ys Γc hd hk ⟨rfl,s,s',rfl⟩
  obtain⟨l1,l2,rfl⟩:=zip_get hd
  rw[ba] at l2
  walk_at "x7"
  exact⟨snoc (by rw[cP _ l2]),⟨some _,rfl⟩,⟨some _,rfl⟩⟩
 ·rintro ys Γc hk ⟨rfl,s,s',rfl⟩
  rw[z1,iS]
  walk_at "x7"
  exact⟨rfl,.lean,S,_,rfl,by simp,by simp;omega,by simp;omega,by simp;omega,by omega,q⟩
def Gk (a:Ad):S3:=fun Γ Q=>∃ (R:Rl) (S D:List Int),Γ=[some (.fz (R.ob a)),some (.fz (il S)),some (.fz (il D))]∧Fig S∧Fig D∧1≤D.length∧D.length≤S.length∧S.length≤D.length + 1∧S.length + D.length≤64∧Q (.fr (il (eA R S D))) Γ
theorem bH (T:Txt K mg a):aY P w K mg base CX0 5 a.eN a.jL ["self","sums","differences"] (sp3 K 3 (Gk a)):=by
 refine ok3 T.wA tU (hbody:=fun cdv A outer s H E hr=>⟨_,_,(ao (cJ (cf (cc (ar (by rfl) (rQ T) (hr.mono (by decide)) (by rfl) T.uj T.nY.kp T.uR (aa (P3.opd (p3v 1)) (aa (P3.opd (p3v 2)) ae))))) (aq iP) bF)
   (aq (au (P3.or (av (by rfl) (bv 0) T.cN T.qI (kl T) (hr.mono (by decide)) T.lS (aa (P3.opd (p3v 1)) (aa (P3.opd (p3v 2)) ae))) (P3.or (av (by rfl) (bv 0) T.bA T.oo (kl T) (hr.mono (by decide)) T.lS (aa (P3.opd (p3v 1)) (aa (P3.opd (p3v 2)) ae))) (P3.or (av (by rfl) (bv 0) T.cq T.nz (m7 T) (hr.mono (by decide)) T.oW (aa (P3.opd (p3v 1)) (aa (P3.opd (p3v 2)) ae))) (av (by rfl) (bv 0) T.bu T.nk (m5 T) (hr.mono (by decide)) T.oU (aa (P3.opd (p3v 1)) (aa (P3.opd (p3v 2)) ae))))))))),fun Γa Q h hl=>?_⟩)
 obtain⟨R,S,Df,rfl,f1,f2,h1,h2,h3,h4,q⟩:=h
 walk_at "x7"
 refine⟨S,Df,rfl,f1,f2,h1,h2,h3,h4,?_⟩
 walk_at "x7"
 cases R with
 | sum=>exact .inl ⟨rfl,.sum,S,Df,rfl,.inl rfl,h1,h2,h3,h4,q⟩
 | half=>exact .inr (.inl ⟨rfl,.half,S,Df,rfl,.inr rfl,h1,h2,h3,h4,q⟩)
 | guess=>exact .inr (.inr (.inl ⟨rfl,.guess,S,Df,rfl,rfl,h1,h2,h3,h4,q⟩))
 | lean=>exact .inr (.inr (.inr ⟨rfl,.lean,S,Df,rfl,rfl,h1,h2,h3,h4,q⟩))
def Gh:S3:=fun Γ Q=>∃ (ns:List Int) (k:Int),Γ=[some (.fz (.scr ns)),some (.fz (.int k))]∧0≤k∧∀ r,Q (.fz (.int r)) Γ
theorem uc (T:Txt K mg a):aY P w K mg base CX0 1 a.kL a.jJ ["_law_script","_law_k"] (sp3 K 2 Gh):=by
 refine ok3 T.pM tR (hbody:=fun cdv A outer s H E hr=>⟨_,_,(ao (cJ (b9 sQ (bv 1) (P3.opd (aB (dn (by rfl)) (by rfl) T.z_len (by decide +kernel) (aa (bv 0) ae))) (bW _)) (aq (au (cu (by rfl) (bv 0) (bv 1) (fun _ _=>rfl)))) bF)
   (aq (au (br (P3.opd (fI (P3.opd af) (bv 1))) (P3.opd af))))),fun Γa Q h hl=>?_⟩)
 obtain⟨ns,k,rfl,hk,q⟩:=h
 walk_at "x7"
 by_cases h:k < (ns.length:Int)
 ·simp only[qP,h,decide_true]
  exact⟨_,DH hk h,q _⟩
 ·simp only[qP,h,decide_false]
  exact⟨.inl ⟨by decide,by decide⟩,q _⟩
def Box (c:Int) (d:D):Prop:=∃ x m k:Int,d=.lst [.int x,.int m,.int k]∧0≤x∧0≤m∧m < 2147483647∧0≤k∧k≤c
def HX:S3:=fun Γ Q=>∃ (x:Int),Γ=[some (.fz (.int x))]∧∀ d,Box 0 d→Q (.fr d) Γ
theorem vD (T:Txt K mg a):aY P w K mg base CX0 1 a.my a.kE ["_law_cell_here"] (sp3 K 1 HX):=by
 refine ok3 T.rD vg (hbody:=fun cdv A outer s H E hr=>⟨_,_,(aq (au (ck (ag (aB (BW rfl) (by rfl) T.z_max (by decide +kernel) (aa (P3.opd af) (aa (P3.opd (da (bv 0) (P3.opd (lZ (v:=1000000000000000000) (by decide +kernel) ⟨by decide,by decide,by decide⟩)))) ae))) (ag (oa (bv 0) (P3.opd af)) (ag af aA)))))),fun Γa Q h hl=>?_⟩)
 obtain⟨x,rfl,q⟩:=h
 walk_at "x7"
 exact⟨by decide,by rw[sizeLine_eq];omega,q _ ⟨_,_,_,rfl,by unfold fmax;split <;> omega,Int.emod_nonneg _ (by decide),Int.emod_lt_of_pos _ (by decide),by decide,by decide⟩⟩
def EE:S3:=fun Γ Q=>∃ (d:D) (c n:Int),Γ=[some (.ln d),some (.fz (.int n))]∧Box c d∧c≤1000000∧0 < n∧n≤1000000000∧∀ r d',0≤r→r < n→Box (c + 1) d'→Q (.fz (.int r)) [some (.ln d'),some (.fz (.int n))]
theorem aI (T:Txt K mg a):aY P w K mg base CX0 1 a.kI a.jG ["_law_box_here","_law_many"] (sp3 K 2 EE):=by
 refine ok3 T.aK eQ (hbody:=fun cdv A outer s H E hr=>⟨_,_,(ao (cJ (b9 BX (P3.opd (cu (by rfl) (bv 0) (P3.opd af) (fun _ _=>rfl))) (P3.opd af) (bW _)) (ao (bI (i:=2) eQ.nd rfl (Or.inl rfl) (oa (P3.opd (cu (by rfl) (bv 0) (P3.opd af) (fun _ _=>rfl))) (bv 1)))
   (ao (vh 0 (bv 0) (P3.opd af) (eu (P3.opd (cu (by rfl) (bv 0) (P3.opd af) (fun _ _=>rfl))) (bv 1)))
   (aq (au (vx 2))))) bF)
   (ao (vh 0 (bv 0) (P3.opd af) (br (P3.opd (cu (by rfl) (bv 0) (P3.opd af) (fun _ _=>rfl))) (P3.opd af)))
   (ao (bI (i:=3) eQ.nd rfl (Or.inl rfl) (br (P3.opd (br (P3.opd (fI (P3.opd (cu (by rfl) (bv 0) (P3.opd af) (fun _ _=>rfl))) (P3.opd (br (P3.opd af) (P3.opd (fI (P3.opd af) (P3.opd (cu (by rfl) (bv 0) (P3.opd af) (fun _ _=>rfl))))))))) (P3.opd (fI (P3.opd af) (P3.opd (cu (by rfl) (bv 0) (P3.opd af) (fun _ _=>rfl))))))) (P3.opd af)))
   (ao (bI (i:=4) eQ.nd rfl (Or.inl rfl) (oa (P3.opd (CZ (bv 3) (P3.opd af))) (P3.opd af)))
   (ao (bI (i:=4) eQ.nd rfl (Or.inl rfl) (oa (P3.opd (fI (P3.opd (br (bv 4) (P3.opd (fI (P3.opd af) (P3.opd (cu (by rfl) (bv 0) (P3.opd af) (fun _ _=>rfl))))))) (P3.opd (br (bv 4) (P3.opd af))))) (P3.opd af)))
   (aq (au (oa (P3.opd (eu (bv 4) (P3.opd af))) (bv 1))))))))),fun Γa Q h hl=>?_⟩)
 obtain⟨_,c,n,rfl,⟨x,m,k,rfl,hx,hm,hm2,hk,hk2⟩,hc,hn,hn2,q⟩:=h
 walk_at "x7"
 by_cases e:0 < x
 ·simp only[qR,e,decide_true]
  exact⟨hn,⟨hn,by omega⟩,q _ _ (Int.emod_nonneg _ (by omega)) (Int.emod_lt_of_pos _ hn) ⟨_,_,_,rfl,Int.ediv_nonneg hx (by omega),hm,hm2,hk,by omega⟩⟩
 ·simp only[qR,e,decide_false]
  have p1:0≤m * (48271 + 2 * (k + 1)):=Int.mul_nonneg hm (by omega)
  have p2:m * (48271 + 2 * (k + 1))≤2147483647 * (48271 + 2 * (k + 1)):=Int.mul_le_mul_of_nonneg_right (by omega) (by omega)
  refine⟨.inl ⟨by decide,by decide⟩,.inl ⟨by omega,by omega⟩,.inl ⟨by decide,by decide⟩,⟨by decide,by decide,?_⟩,?_⟩
  ·show (m * (48271 + 2 * (k + 1)) + 7919 * (k + 1) + 11).natAbs < 2 ^ 64
   omega
  generalize hy:(m * (48271 + 2 * (k + 1)) + 7919 * (k + 1) + 11) ^ Int.toNat 5 % 2147483629=y
  have hy0:0≤y:=by rw[← hy];exact Int.emod_nonneg _ (by decide)
  have hy1:y < 2147483629:=by rw[← hy];exact Int.emod_lt_of_pos _ (by decide)
  exact⟨by decide,.inl ⟨by decide,by decide⟩,.inr ⟨by omega,by omega⟩,by decide,⟨by decide,by decide⟩,hn,q _ _ (Int.emod_nonneg _ (by omega)) (Int.emod_lt_of_pos _ hn) ⟨_,_,_,rfl,hx,hm,hm2,by omega,by omega⟩⟩
theorem pick {p:D→Prop} {xs:List D} {r:Int} {k:D→Prop} {t:Tag k} (h0:0≤r) (h1:r < (xs.length:Int)) (hp:∀ x∈xs,p x) (q:∀ v,p v→k v):m1 (atI xs r) k t:=by
 obtain⟨d,h2,h3⟩:=DJ h0 h1
 exact gH.mpr ⟨d,h2,q d (hp d h3)⟩
theorem Box.up {c c':Int} {d:D} (b:Box c d) (h:c≤c'):Box c' d:=by
 obtain⟨x,m,k,e,h1,h2,h3,h4,h5⟩:=b
 exact⟨x,m,k,e,h1,h2,h3,h4,Int.le_trans h5 h⟩
def Rl.sel (R:Rl) (x1 x2 x3 x4:S3):S3:=match R with
 | .sum=>x1 | .half=>x2 | .guess=>x3 | .lean=>x4
def or4 (a:Ad) (m:Str) (n:Nat) (x1 x2 x3 x4:S3) (o3:TB3) (t3:jm) (Γ:G) (Q:RV→G→Prop) (_:Tag (m,n,x1,x2,x3,x4)) (_:Tag (o3,t3,Q)):Prop:=iw a.bg m n x1 o3 t3 Γ Q∨iw a.aF m n x2 o3 t3 Γ Q∨iw a.az m n x3 o3 t3 Γ Q∨iw a.ay m n x4 o3 t3 Γ Q
theorem Hc {m:Str} {n:Nat} {x1 x2 x3 x4:S3} {o3:TB3} {t3:jm} {Γ:G} {Q:RV→G→Prop}:(iw a.bg m n x1 o3 t3 Γ Q∨iw a.aF m n x2 o3 t3 Γ Q∨iw a.az m n x3 o3 t3 Γ Q∨iw a.ay m n x4 o3 t3 Γ Q)=or4 a m n x1 x2 x3 x4 o3 t3 Γ Q ⟨⟩ ⟨⟩:=rfl
theorem iD {m:Str} {n:Nat} {x1 x2 x3 x4:S3} {o3:TB3} {t3:jm} {Γ:G} {Q:RV→G→Prop} {s:Tag (m,n,x1,x2,x3,x4)} {t:Tag (o3,t3,Q)} (R:Rl) (h:iw (R.cls a) m n (R.sel x1 x2 x3 x4) o3 t3 Γ Q):or4 a m n x1 x2 x3 x4 o3 t3 Γ Q s t:=by
 cases R
 ·exact .inl h
 ·exact .inr (.inl h)
 ·exact .inr (.inr (.inl h))
 ·exact .inr (.inr (.inr h))
local macro_rules | `(tactic| walk_at "z1")=>do `(tactic| try simp -dsimp only [$(←mkL "gP List.length_cons List.length_nil Nat.reduceAdd Nat.reduceSub Nat.zero_add List.replicate List.cons_append List.nil_append List.append_nil ↓Ed ↓Bl ↓Ec ↓Ee ↓Bm ↓Ei ↓H_ ↓Ia ↓H8 ↓H9 CV ↓Bh ↓wL ↓wK lh ↓Ek ↓El ↓uO ↓yq ↓Bj ↓Bf ↓HD ↓HC ↓Bn ↓Eg ↓h_c sg yZ ↓Eb ↓Eo ↓HA ↓Ef yK C5 AO ↓HB ↓Eh ↓Ea Gat Bo.at ats RV.d RV.sl zJ i2 i2' zA eq3 eqS ↓A9 ↓A8 uq um uk uo A5 zq mx3 B9 A_ AV xE xG xB xC xF sl3 Cn ↓Bi ↓Bg vO mh qk is3 knD dB dI dL dT ↓Em ext3 Ez AW B8 beq_self_eq_true i28 EK Ag vT List.zip_cons_cons List.lookup_cons List.lookup_nil ↓tK qE nD ↓A0 uw ↓yC xH ↓Ba ud ↓wM qD ↓xO ↓uE FV FU FT tgP dS E8 Ax FQ Gu vj z9 RV.fz.injEq ↓tJ cO putD tgN tgT gives frees iL3 iR1 iR2 iZ3 iE3 lz3 B7 ↓yD ↓uI ↓qU ↓xI List.isEmpty_nil List.isEmpty_cons ↓Bp ↓yr By Bz ↓Ej ↓AY gr nU iy e7 dj List.map_cons List.map_nil Option.bind_some Option.bind_none List.nodup_nil List.nodup_cons List.getElem?_cons_zero List.getElem?_cons_succ List.getElem?_nil List.set_cons_zero List.set_cons_succ exists_eq_left' exists_eq_left exists_eq' exists_eq exists_and_left exists_and_right Option.some.injEq D.int.injEq D.lst.injEq D.str.injEq D.tup.injEq D.bl.injEq D.ins.injEq D.ty.injEq List.cons.injEq and_true true_and and_false false_and true_or false_or or_false or_true and_assoc List.not_mem_nil not_false_eq_true mz sN zF zz BA Bw BB i4 Bool.false_xor Bool.not_true Bool.not_false Bool.true_xor iV List.mapIdx_cons List.mapIdx_nil cL ite_self newD Option.getD_some Option.getD_none B6 B5 B4 B2 xy xx xw if_pos if_true if_false List.all_cons List.all_nil Option.isNone_none Bool.and_true Bool.true_and decide_eq_true_eq not_true not_false_iff reduceCtorEq eq_self Bool.false_eq_true reduceIte Int.reduceEq Gr Gm Gn Gs Gq Gp xD ED FY zS frL AF GC DY tw tu nm3 iT3 HL Gi ↓Hc Nat.reduceEqDiff"),*])
def Fy:S3:=fun Γ Q=>∃ (d:D) (c:Int),Γ=[some (.ln d)]∧Box c d∧c≤900000∧∀ r d',-1000000000000000 < r→r < 1000000000000000→Box (c + 4) d'→Q (.fz (.int r)) [some (.ln d')]
theorem eY (T:Txt K mg a):aY P w K mg base CX0 2 a.iH a.gY ["_law_box_here"] (sp3 K 1 Fy):=by
 refine ok3 T.eJ gQ (hbody:=fun cdv A outer s H E hr=>⟨_,_,(ao (bI (i:=1) gQ.nd rfl (Or.inl rfl) (ar (by rfl) (aI T) (hr.mono (by decide)) (by rfl) T.aN T.aK.kp T.aO (aa (bv 0) (aa (P3.opd af) ae))))
   (ao (cJ (b9 (hV (by rfl) hr) (bv 1) (P3.opd af) (bW _)) (aq (au (da (P3.opd (ar (by rfl) (aI T) (hr.mono (by decide)) (by rfl) T.aN T.aK.kp T.aO (aa (bv 0) (aa (P3.opd af) ae)))) (P3.opd af)))) bF)
   (ao (cJ (b9 (hV (by rfl) hr) (bv 1) (P3.opd af) (bW _)) (aq (au (cu (by rfl) (P3.opd (ck (ag (da (P3.opd (lZ (v:=1000000000000000) (by decide +kernel) ⟨by decide,by decide,by decide⟩)) (P3.opd af)) (ag (da (P3.opd af) (P3.opd (lZ (v:=1000000000000000) (by decide +kernel) ⟨by decide,by decide,by decide⟩))) (ag af (ag (kh (P3.opd af)) aA)))))) (P3.opd (ar (by rfl) (aI T) (hr.mono (by decide)) (by rfl) T.aN T.aK.kp T.aO (aa (bv 0) (aa (P3.opd af) ae)))) (fun _ _=>rfl)))) bF)
   (ao (cJ (b9 (hV (by rfl) hr) (bv 1) (P3.opd af) (bW _)) (ao (bI (i:=2) gQ.nd rfl (Or.inl rfl) (br (P3.opd (fI (P3.opd (ar (by rfl) (aI T) (hr.mono (by decide)) (by rfl) T.aN T.aK.kp T.aO (aa (bv 0) (aa (P3.opd (lZ (v:=100000000) (by decide +kernel) ⟨by decide,by decide,by decide⟩)) ae)))) (P3.opd (lZ (v:=10000000) (by decide +kernel) ⟨by decide,by decide,by decide⟩)))) (P3.opd (ar (by rfl) (aI T) (hr.mono (by decide)) (by rfl) T.aN T.aK.kp T.aO (aa (bv 0) (aa (P3.opd (lZ (v:=10000000) (by decide +kernel) ⟨by decide,by decide,by decide⟩)) ae))))))
   (aq (au (cu (by rfl) (P3.opd (ck (ag (p3v 2) (ag (da (P3.opd af) (bv 2)) aA)))) (P3.opd (ar (by rfl) (aI T) (hr.mono (by decide)) (by rfl) T.aN T.aK.kp T.aO (aa (bv 0) (aa (P3.opd af) ae)))) (fun _ _=>rfl))))) bF)
   (aq (au (da (P3.opd (ar (by rfl) (aI T) (hr.mono (by decide)) (by rfl) T.aN T.aK.kp T.aO (aa (bv 0) (aa (P3.opd af) ae)))) (P3.opd af)))))))),fun Γa Q h hl=>?_⟩)
 obtain⟨d,c,rfl,hb,hc,q⟩:=h
 walk_at "z1"
 refine⟨_,_,5,rfl,hb,by omega,by decide,by decide,fun r1 d1 l1 u1 b1=>?_⟩
 walk_at "z1"
 refine jj (fun h=>?_) (fun h0=>?_)
 ·walk_at "z1"
  refine⟨_,_,21,rfl,b1,by omega,by decide,by decide,fun r2 d2 l2 u2 b2=>?_⟩
  walk_at "z1"
  exact q _ _ (by omega) (by omega) (b2.up (by omega))
 walk_at "z1"
 refine jj (fun h=>?_) (fun h1=>?_)
 ·walk_at "z1"
  refine⟨by rw[sizeLine_eq];omega,_,_,4,rfl,b1,by omega,by decide,by decide,fun r2 d2 l2 u2 b2=>?_⟩
  walk_at "z1"
  refine pick (p:=fun v=>∃ i:Int,v=.int i∧-1000000000000000 < i∧i < 1000000000000000) l2 u2 ?_ ?_
  ·intro v hv
   simp only[List.mem_cons,List.not_mem_nil,or_false] at hv
   rcases hv with rfl | rfl | rfl | rfl <;> exact⟨_,rfl,by decide,by decide⟩
  ·rintro _ ⟨i,rfl,h1,h2⟩
   walk_at "z1"
   exact q _ _ h1 h2 (b2.up (by omega))
 walk_at "z1"
 refine jj (fun h=>?_) (fun h2=>?_)
 ·walk_at "z1"
  refine⟨_,_,100000000,rfl,b1,by omega,by decide,by decide,fun r2 d2 l2 u2 b2=>?_⟩
  walk_at "z1"
  refine⟨.inr ⟨by decide,by decide⟩,_,_,10000000,rfl,b2,by omega,by decide,by decide,fun r3 d3 l3 u3 b3=>?_⟩
  walk_at "z1"
  refine⟨by rw[sizeLine_eq];omega,_,_,2,rfl,b3,by omega,by decide,by decide,fun r4 d4 l4 u4 b4=>?_⟩
  walk_at "z1"
  refine pick (p:=fun v=>∃ i:Int,v=.int i∧-1000000000000000 < i∧i < 1000000000000000) l4 u4 ?_ ?_
  ·intro v hv
   simp only[List.mem_cons,List.not_mem_nil,or_false] at hv
   rcases hv with rfl | rfl <;> exact⟨_,rfl,by omega,by omega⟩
  ·rintro _ ⟨i,rfl,h1,h2⟩
   walk_at "z1"
   exact q _ _ h1 h2 (b4.up (by omega))
 walk_at "z1"
 refine⟨_,_,200001,rfl,b1,by omega,by decide,by decide,fun r2 d2 l2 u2 b2=>?_⟩
 walk_at "z1"
 exact q _ _ (by omega) (by omega) (b2.up (by omega))
def F9:S3:=fun Γ Q=>∃ (n:Int),Γ=[some (.fz (.int n))]∧Q (.fz (.bl (decide (-1000000000000000 < n∧n < 1000000000000000)))) Γ
theorem ua (T:Txt K mg a):aY P w K mg base CX0 1 a.kJ a.jH ["_law_number_here"] (sp3 K 1 F9):=by
 refine ok3 T.pJ tQ (hbody:=fun cdv A outer s H E hr=>⟨_,_,(aq (au (fJ sQ (P3.opd (aB HW (by rfl) T.z_abs (by decide +kernel) (aa (bv 0) ae))) (P3.opd (lZ (v:=1000000000000000) (by decide +kernel) ⟨by decide,by decide,by decide⟩)) (bW _)))),fun Γa Q h hl=>?_⟩)
 obtain⟨n,rfl,q⟩:=h
 walk_at "z1"
 rw[show qP (if n < 0 then -n else n) 1000000000000000=decide (-1000000000000000 < n∧n < 1000000000000000) by simp only[qP];congr 1;apply propext;split <;> omega]
 exact q
def mG (ns:List Int):Bool:=ns.all fun n=>decide (-1000000000000000 < n∧n < 1000000000000000)
theorem sk {ns:List Int} (h:mG ns=true):Fig ns:=fun n hn=>by
 have:=List.all_eq_true.mp h n hn
 simpa using this
theorem GB {ns:List Int} (h:Fig ns):mG ns=true:=List.all_eq_true.mpr fun n hn=>by simpa using h n hn
theorem yo {ns:List Int} {k:Nat} {d:D} (h:(ns.map D.int)[k]?=some d):∃ n,ns[k]?=some n∧d=.int n:=by
 rw[List.getElem?_map] at h
 cases q:ns[k]? with
 | none=>rw[q] at h;cases h
 | some n=>rw[q] at h;cases h;exact⟨n,rfl,rfl⟩
theorem take_snoc {α:Type} {xs:List α} {k:Nat} {x:α} (h:xs[k]?=some x):xs.take (k + 1)=xs.take k++[x]:=by rw[List.take_succ,h];rfl
def B0 (n:Int):Bool:=!decide (-1000000000000000 < n∧n < 1000000000000000)
def Ck:S3:=fun Γ Q=>∃ (ns:List Int),Γ=[some (.fz (il ns))]∧ns.length≤200∧Q (.fz (.bl (mG ns))) Γ
theorem lN (T:Txt K mg a):aY P w K mg base CX0 2 a.jP a.iG ["_law_row_here"] (sp3 K 1 Ck):=by
 refine ok3 T.jV rO (hbody:=fun cdv A outer s H E hr=>⟨_,_,(aq (au (fJ (hV (by rfl) hr) (P3.opd (vy rfl (gM (by rfl) (p3v 0)) i5 (fun _ _ _ _ _=>(cM (i:=0) i5.nd rfl (Or.inl rfl))) (fun _ _ _ _ _=>(cf (cc (ar (by rfl) (ua T) (hr.mono (by decide)) (by rfl) T.vK T.pJ.kp T.wm (aa (P3.opd (p3v 0)) ae))))) (fun _ _ _ _ _=>(p3v 0)))) (P3.opd (ck aA)) (bW _)))),fun Γa Q h hl=>?_⟩)
 obtain⟨ns,rfl,hn,q⟩:=h
 walk_at "z1"
 refine sO (fun k ys Γc=>k≤ns.length∧ys=((ns.take k).filter B0).map D.int∧∃ s,Γc=[fo s]) ⟨Nat.zero_le _,rfl,none,rfl⟩ ?_ ?_
 ·rintro k d ys Γc hd ⟨hk,rfl,s,rfl⟩
  obtain⟨n,hn',rfl⟩:=yo hd
  have lt:=ox hn'
  walk_at "z1"
  refine⟨n,rfl,?_⟩
  walk_at "z1"
  rw[show (!decide (-1000000000000000 < n∧n < 1000000000000000))=B0 n from rfl]
  cases e:B0 n
  ·exact⟨lt,by rw[take_snoc hn',List.filter_append,List.filter_cons_of_neg (by rw[e];decide)];simp,some _,rfl⟩
  ·refine⟨small (by rw[List.length_map];exact Nat.le_trans (List.length_filter_le _ _) (by rw[List.length_take];omega)),?_⟩
   exact⟨lt,by rw[take_snoc hn',List.filter_append,List.filter_cons_of_pos e,List.map_append];simp,some _,rfl⟩
 ·rintro ys Γc ⟨hk,rfl,s,rfl⟩
  walk_at "z1"
  rw[List.take_of_length_le (by rw[List.length_map];omega)]
  refine⟨small (by rw[List.length_map];exact Nat.le_trans (List.length_filter_le _ _) (by omega)),Nat.zero_le _,?_⟩
  have e:(List.map D.int (List.filter B0 ns)).isEmpty=mG ns:=by
   unfold mG
   clear q hn hl hk
   induction ns with
   | nil=>rfl
   | cons n ns ih=>
    rw[List.all_cons,← ih,List.filter_cons]
    unfold B0
    cases decide (-1000000000000000 < n∧n < 1000000000000000) <;> simp
  rw[e];exact q
theorem qd {ns:List Int} {n:Int} (h:Fig ns) (h1:-1000000000000000 < n) (h2:n < 1000000000000000):Fig (ns++[n]):=fun x hx=>by
 rcases List.mem_append.mp hx with hx | hx
 ·exact h x hx
 ·have:x=n:=by simpa using hx
  subst this;exact⟨h1,h2⟩
def ES:S3:=fun Γ Q=>∃ (d:D) (c:Int),Γ=[some (.ln d),some (.fz (.int 2))]∧Box c d∧c≤800000∧∀ ns d',2≤ns.length→ns.length≤64→Fig ns→Box (c + 1000) d'→Q (.fr (il ns)) [some (.ln d'),some (.fz (.int 2))]
theorem vC (T:Txt K mg a):aY P w K mg base CX0 3 a.mx a.kD ["_law_box_here","_law_least"] (sp3 K 2 ES):=by
 refine ok3 T.rC eM (hbody:=fun cdv A outer s H E hr=>⟨_,_,(ao (bI (i:=2) eM.nd rfl (Or.inl rfl) (ar (by rfl) (aI T) (hr.mono (by decide)) (by rfl) T.aN T.aK.kp T.aO (aa (bv 0) (aa (P3.opd af) ae))))
   (ao (bI (i:=3) eM.nd rfl (Or.inl rfl) (cu (by rfl) (P3.opd (ck (ag (br (bv 1) (P3.opd (ar (by rfl) (aI T) (hr.mono (by decide)) (by rfl) T.aN T.aK.kp T.aO (aa (bv 0) (aa (P3.opd af) ae))))) (ag (br (bv 1) (P3.opd (ar (by rfl) (aI T) (hr.mono (by decide)) (by rfl) T.aN T.aK.kp T.aO (aa (bv 0) (aa (P3.opd (da (P3.opd af) (bv 1))) ae))))) (ag af (ag af aA)))))) (bv 2) (fun _ _=>rfl)))
   (ao (bI (i:=4) eM.nd rfl (Or.inl rfl) (ar (by rfl) (aI T) (hr.mono (by decide)) (by rfl) T.aN T.aK.kp T.aO (aa (bv 0) (aa (P3.opd af) ae))))
   (ao (cJ (b9 (hV (by rfl) hr) (bv 4) (P3.opd af) (bW _)) (ao (bI (i:=5) eM.nd rfl (Or.inr rfl) (eu (P3.opd (ar (by rfl) (eY T) (hr.mono (by decide)) (by rfl) T.gc T.eJ.kp T.gi (aa (bv 0) ae))) (P3.opd af)))
   (ao (bI (i:=6) eM.nd rfl (Or.inr rfl) (da (P3.opd (ar (by rfl) (aI T) (hr.mono (by decide)) (by rfl) T.aN T.aK.kp T.aO (aa (bv 0) (aa (P3.opd af) ae)))) (P3.opd af)))
   (aq (au (gb rfl (dE (by rfl) T.z_range (ag (p3v 3) aA)) kQ (fun _ _ _ _ _=>(cM (i:=0) kQ.nd rfl (Or.inl rfl))) (fun _ _ _ _ _=>(br (bv 1) (P3.opd (fI (bv 2) (bv 0)))))))))) bF)
   (ao (cJ (b9 (hV (by rfl) hr) (bv 4) (P3.opd af) (bW _)) (aq (au (gb rfl (dE (by rfl) T.z_range (ag (p3v 3) aA)) kS (fun _ _ _ _ _=>(cM (i:=0) kS.nd rfl (Or.inl rfl))) (fun _ _ _ _ _=>(da (P3.opd (ar (by rfl) (aI T) (hr.mono (by decide)) (by rfl) T.aN T.aK.kp T.aO (aa (bv 1) (aa (P3.opd af) ae)))) (P3.opd af)))))) bF)
   (aq (au (gb rfl (dE (by rfl) T.z_range (ag (p3v 3) aA)) kT (fun _ _ _ _ _=>(cM (i:=0) kT.nd rfl (Or.inl rfl))) (fun _ _ _ _ _=>(ar (by rfl) (eY T) (hr.mono (by decide)) (by rfl) T.gc T.eJ.kp T.gi (aa (bv 1) ae))))))))))),fun Γa Q h hl=>?_⟩)
 obtain⟨d,c,rfl,hb,hc,q⟩:=h
 walk_at "z1"
 refine⟨_,_,4,rfl,hb,by omega,by decide,by decide,fun r1 d1 l1 u1 b1=>?_⟩
 walk_at "z1"
 refine⟨_,_,7,rfl,b1,by omega,by decide,by decide,fun r2 d2 l2 u2 b2=>?_⟩
 walk_at "z1"
 refine⟨_,_,63,rfl,b2,by omega,by decide,by decide,fun r3 d3 l3 u3 b3=>?_⟩
 walk_at "z1"
 refine⟨by rw[sizeLine_eq];omega,?_⟩
 refine pick (p:=fun v=>∃ i:Nat,v=.int (i:Int)∧2≤i∧i≤64) l1 u1 ?_ ?_
 ·intro v hv
  simp only[List.mem_cons,List.not_mem_nil,or_false] at hv
  rcases hv with rfl | rfl | rfl | rfl
  ·exact⟨(2 + r2).toNat,by rw[Int.toNat_of_nonneg (by omega)],by omega,by omega⟩
  ·exact⟨(2 + r3).toNat,by rw[Int.toNat_of_nonneg (by omega)],by omega,by omega⟩
  ·exact⟨64,rfl,by decide,by decide⟩
  ·exact⟨63,rfl,by decide,by decide⟩
 rintro _ ⟨m,rfl,hm1,hm2⟩
 walk_at "z1"
 refine⟨_,_,4,rfl,b3,by omega,by decide,by decide,fun r4 d4 l4 u4 b4=>?_⟩
 walk_at "z1"
 refine jj (fun h=>?_) (fun h0=>?_)
 ·walk_at "z1"
  refine⟨_,_,rfl,b4,by omega,fun f d5 lf uf b5=>?_⟩
  walk_at "z1"
  refine⟨⟨by decide,by decide⟩,_,_,2001,rfl,b5,by omega,by decide,by decide,fun r6 d6 l6 u6 b6=>?_⟩
  walk_at "z1"
  refine⟨by omega,by omega,small (by rw[cR];omega),cv (fun k ys Γc=>ys=(List.range k).map (fun (j:Nat)=>D.int (f / 2 + (r6 - 1000) * (j:Int)))∧∃ s,Γc=[fo s,some (.fz (.int (f / 2))),some (.fz (.int (r6 - 1000)))]) ⟨rfl,none,rfl⟩ ?_ ?_⟩
  ·rintro k d ys Γc hd hk ⟨rfl,s,rfl⟩
   obtain⟨lt,rfl⟩:=gL hd
   walk_at "z1"
   exact⟨.inl ⟨by omega,by omega⟩,snoc rfl,some _,rfl⟩
  ·rintro ys Γc hk ⟨rfl,s,rfl⟩
   walk_at "z1"
   rw[cR,Int.toNat_natCast,iS]
   refine q _ _ (by simp;omega) (by simp;omega) ?_ (b6.up (by omega))
   intro n hn
   simp only[List.mem_map,List.mem_range] at hn
   obtain⟨j,hj,rfl⟩:=hn
   have e1:-64000≤(r6 - 1000) * (j:Int):=by
    have:=Int.mul_le_mul_of_nonneg_right (show (-1000:Int)≤r6 - 1000 by omega) (show (0:Int)≤(j:Int) by omega)
    omega
   have e2:(r6 - 1000) * (j:Int)≤64000:=by
    have:=Int.mul_le_mul_of_nonneg_right (show r6 - 1000≤(1000:Int) by omega) (show (0:Int)≤(j:Int) by omega)
    omega
   omega
 walk_at "z1"
 refine jj (fun h=>?_) (fun h1=>?_)
 ·walk_at "z1"
  refine⟨by omega,by omega,small (by rw[cR];omega),cv (fun k ys Γc=>∃ ns:List Int,ys=ns.map D.int∧ns.length=k∧Fig ns∧∃ s d',Box (c + 4 + k) d'∧Γc=[fo s,some (.ln d')]) ⟨[],rfl,rfl,(fun _ h=>nomatch h),none,_,b4.up (by omega),rfl⟩ ?_ ?_⟩
  ·rintro k d ys Γc hd hk ⟨ns,rfl,hl',hf,s,d',bd,rfl⟩
   obtain⟨lt,rfl⟩:=gL hd
   walk_at "z1"
   refine⟨_,_,3,rfl,bd,by omega,by decide,by decide,fun r6 d6 l6 u6 b6=>?_⟩
   walk_at "z1"
   exact⟨ns++[r6 - 1],by rw[List.map_append];rfl,by simp [hl'],qd hf (by omega) (by omega),some _,_,b6.up (by omega),rfl⟩
  ·rintro ys Γc hk ⟨ns,rfl,hl',hf,s,d',bd,rfl⟩
   walk_at "z1"
   rw[cR,Int.toNat_natCast] at hl' bd
   exact q _ _ (by omega) (by omega) hf (bd.up (by omega))
 walk_at "z1"
 refine⟨by omega,by omega,small (by rw[cR];omega),cv (fun k ys Γc=>∃ ns:List Int,ys=ns.map D.int∧ns.length=k∧Fig ns∧∃ s d',Box (c + 4 + 4 * k) d'∧Γc=[fo s,some (.ln d')]) ⟨[],rfl,rfl,(fun _ h=>nomatch h),none,_,b4.up (by omega),rfl⟩ ?_ ?_⟩
 ·rintro k d ys Γc hd hk ⟨ns,rfl,hl',hf,s,d',bd,rfl⟩
  obtain⟨lt,rfl⟩:=gL hd
  walk_at "z1"
  refine⟨_,_,rfl,bd,by omega,fun r6 d6 l6 u6 b6=>?_⟩
  walk_at "z1"
  exact⟨ns++[r6],by rw[List.map_append];rfl,by simp [hl'],qd hf (by omega) (by omega),some _,_,b6.up (by omega),rfl⟩
 ·rintro ys Γc hk ⟨ns,rfl,hl',hf,s,d',bd,rfl⟩
  walk_at "z1"
  rw[cR,Int.toNat_natCast] at hl' bd
  exact q _ _ (by omega) (by omega) hf (bd.up (by omega))
def Hz:S3:=fun Γ Q=>∃ (d:D) (c:Int),Γ=[some (.ln d)]∧Box c d∧c≤800000∧∀ S Df d',1≤Df.length→Df.length≤S.length→S.length≤Df.length + 1→S.length + Df.length≤64→Fig S→Fig Df→Box (c + 1000) d'→Q (.fz (.tup [il S,il Df])) [some (.ln d')]
theorem mX (T:Txt K mg a):aY P w K mg base CX0 3 a.fN a.e_ ["_law_box_here"] (sp3 K 1 Hz):=by
 refine ok3 T.jo dN (hbody:=fun cdv A outer s H E hr=>⟨_,_,(ao (bI (i:=1) dN.nd rfl (Or.inl rfl) (cu (by rfl) (P3.opd (ck (ag (br (P3.opd af) (P3.opd (ar (by rfl) (aI T) (hr.mono (by decide)) (by rfl) T.aN T.aK.kp T.aO (aa (bv 0) (aa (P3.opd af) ae))))) (ag (br (P3.opd af) (P3.opd (ar (by rfl) (aI T) (hr.mono (by decide)) (by rfl) T.aN T.aK.kp T.aO (aa (bv 0) (aa (P3.opd af) ae))))) (ag af aA))))) (P3.opd (ar (by rfl) (aI T) (hr.mono (by decide)) (by rfl) T.aN T.aK.kp T.aO (aa (bv 0) (aa (P3.opd af) ae)))) (fun _ _=>rfl)))
   (ao (bI (i:=2) dN.nd rfl (Or.inl rfl) (fI (P3.opd (ar (by rfl) (aI T) (hr.mono (by decide)) (by rfl) T.aN T.aK.kp T.aO (aa (bv 0) (aa (P3.opd af) ae)))) (P3.opd (bZ HU (by rfl) T.z_int (by decide +kernel) (aa (P3.opd (fJ sQ (bv 1) (P3.opd af) (bW _))) ae)))))
   (ao (dW (i:=3) dN.nd rfl rfl rfl (dE (by rfl) T.z_range (ag (br (bv 1) (bv 2)) aA)) gm (fun _ _ _ _ _=>(cM (i:=0) gm.nd rfl (Or.inl rfl))) (fun _ _ _ _ _=>(ar (by rfl) (eY T) (hr.mono (by decide)) (by rfl) T.gc T.eJ.kp T.gi (aa (bv 1) ae))))
   (aq (au (n_ (ag (p3v 3) (ag (gb rfl (dE (by rfl) T.z_range (ag (p3v 1) aA)) gn (fun _ _ _ _ _=>(cM (i:=0) gn.nd rfl (Or.inl rfl))) (fun _ _ _ _ _=>(ar (by rfl) (eY T) (hr.mono (by decide)) (by rfl) T.gc T.eJ.kp T.gi (aa (bv 1) ae)))) aA)))))))),fun Γa Q h hl=>?_⟩)
 obtain⟨d,c,rfl,hb,hc,q⟩:=h
 walk_at "z1"
 refine⟨_,_,4,rfl,hb,by omega,by decide,by decide,fun r1 d1 l1 u1 b1=>?_⟩
 walk_at "z1"
 refine⟨_,_,32,rfl,b1,by omega,by decide,by decide,fun r2 d2 l2 u2 b2=>?_⟩
 walk_at "z1"
 refine⟨by rw[sizeLine_eq];omega,_,_,3,rfl,b2,by omega,by decide,by decide,fun r3 d3 l3 u3 b3=>?_⟩
 walk_at "z1"
 refine pick (p:=fun v=>∃ i:Nat,v=.int (i:Int)∧1≤i∧i≤32) l3 u3 ?_ ?_
 ·intro v hv
  simp only[List.mem_cons,List.not_mem_nil,or_false] at hv
  rcases hv with rfl | rfl | rfl
  ·exact⟨(1 + r1).toNat,by rw[Int.toNat_of_nonneg (by omega)],by omega,by omega⟩
  ·exact⟨(1 + r2).toNat,by rw[Int.toNat_of_nonneg (by omega)],by omega,by omega⟩
  ·exact⟨32,rfl,by decide,by decide⟩
 rintro _ ⟨m,rfl,hm1,hm2⟩
 walk_at "z1"
 refine⟨_,_,2,rfl,b3,by omega,by decide,by decide,fun r4 d4 l4 u4 b4=>?_⟩
 walk_at "z1"
 obtain⟨t,et,ht,ht2⟩:∃ t:Nat,r4 * (if (m:Int) < 32 then 1 else 0)=(t:Int)∧t≤1∧m + t≤32:=by
  by_cases z:(m:Int) < 32
  ·exact⟨r4.toNat,by rw[if_pos z,Int.mul_one,Int.toNat_of_nonneg l4],by omega,by omega⟩
  ·exact⟨0,by rw[if_neg z,Int.mul_zero];rfl,by omega,by omega⟩
 rw[et]
 refine⟨.inl ⟨by omega,by omega⟩,by omega,by omega,small (by rw[cR];omega),cv (fun k ys Γc=>∃ ns:List Int,ys=ns.map D.int∧ns.length=k∧Fig ns∧∃ s d',Box (c + 4 + 4 * k) d'∧Γc=[fo s,some (.ln d')]) ⟨[],rfl,rfl,(fun _ h=>nomatch h),none,_,b4.up (by omega),rfl⟩ ?_ ?_⟩
 ·rintro k d ys Γc hd hk ⟨ns,rfl,hl',hf,s,d',bd,rfl⟩
  obtain⟨lt,rfl⟩:=gL hd
  walk_at "z1"
  refine⟨_,_,rfl,bd,by omega,fun r6 d6 l6 u6 b6=>?_⟩
  walk_at "z1"
  exact⟨ns++[r6],by rw[List.map_append];rfl,by simp [hl'],qd hf (by omega) (by omega),some _,_,b6.up (by omega),rfl⟩
 ·rintro ys Γc hk ⟨S,rfl,hS,hfS,s,d',bd,rfl⟩
  walk_at "z1"
  have eS:S.length=m + t:=by rw[hS,cR];omega
  have bS:Box (c + 4 + 4 * 33) d':=bd.up (by rw[cR];omega)
  refine⟨by omega,by omega,small (by rw[cR];omega),cv (fun k ys Γc=>∃ ns:List Int,ys=ns.map D.int∧ns.length=k∧Fig ns∧∃ s d',Box (c + 4 + 4 * 33 + 4 * k) d'∧Γc=[fo s,some (.ln d')]) ⟨[],rfl,rfl,(fun _ h=>nomatch h),none,_,bS.up (by omega),rfl⟩ ?_ ?_⟩
  ·rintro k d ys Γc hd hk ⟨ns,rfl,hl',hf,s,d',bd,rfl⟩
   obtain⟨lt,rfl⟩:=gL hd
   walk_at "z1"
   refine⟨_,_,rfl,bd,by omega,fun r6 d6 l6 u6 b6=>?_⟩
   walk_at "z1"
   exact⟨ns++[r6],by rw[List.map_append];rfl,by simp [hl'],qd hf (by omega) (by omega),some _,_,b6.up (by omega),rfl⟩
  ·rintro ys Γc hk ⟨Df,rfl,hD,hfD,s,d',bd,rfl⟩
   walk_at "z1"
   rw[cR,Int.toNat_natCast] at hD bd
   exact⟨by rw[sizeLine_eq];omega,q S Df _ (by omega) (by omega) (by omega) (by omega) hfS hfD (bd.up (by omega))⟩
def j4 (S Df:List Int):Bool:=(List.range S.length).all fun j=>!decide ((S.getD j 0 - (Df++[0]).getD j 0) % 2=1)
def F_:S3:=fun Γ Q=>∃ (S Df:List Int),Γ=[some (.fz (il S)),some (.fz (il Df))]∧S.length≤Df.length + 1∧S.length≤64∧Df.length≤64∧Q (.fz (.bl (j4 S Df))) Γ
theorem ub (T:Txt K mg a):aY P w K mg base CX0 1 a.kK a.jI ["_law_sums","_law_differences"] (sp3 K 2 F_):=by
 refine ok3 T.pK jt (hbody:=fun cdv A outer s H E hr=>⟨_,_,(ao (ju PassesOwn.never rfl (Dr (by rfl) T.z_enumerate (ag (p3v 0) aA)) (gy (is:=[2,3]) (by rfl) (aS (bc (i:=2) jt.nd rfl (Or.inl rfl)) (aS (bc (i:=3) jt.nd rfl (Or.inl rfl)) dq)) rfl)
   (aq (cJ (b9 (hV (by rfl) hr) (P3.opd (oa (P3.opd (da (bv 3) (P3.opd (cu (by rfl) (P3.opd (br (bv 1) (P3.opd (ck (ag af aA))))) (bv 2) (fun _ _=>rfl))))) (P3.opd af))) (P3.opd af) (bW _)) (aq (au gj)) bF)))
   (aq (au gj))),fun Γa Q h hl=>?_⟩)
 obtain⟨S,Df,rfl,h1,h2,h3,q⟩:=h
 walk_at "z1"
 refine iY (fun k Γ=>k≤S.length∧(∀ j,j < k→¬ (S.getD j 0 - (Df++[0]).getD j 0) % 2=1)∧∃ s s',Γ=[some (.fz (il S)),some (.fz (il Df)),fo s,fo s']) ⟨Nat.zero_le _,fun _ h=>absurd h (by omega),none,none,rfl⟩ ?_ ?_
 ·rintro k d Γ hd ⟨hk,hj,s,s',rfl⟩
  obtain⟨x,hx,rfl⟩:=oK hd
  obtain⟨lt,rfl⟩:=ints_get hx
  walk_at "z1"
  have e0:List.map D.int Df++[D.int 0]=List.map D.int (Df++[0]):=by rw[List.map_append];rfl
  rw[e0]
  refine⟨by rw[sizeLine_eq];omega,by rw[List.length_map,sizeLine_eq];omega,gH.mpr ⟨_,uS (by omega) (by rw[List.length_append];simp;omega),?_⟩⟩
  rw[Int.toNat_natCast]
  walk_at "z1"
  refine⟨by decide,jj (fun h=>?_) (fun h=>?_)⟩
  ·walk_at "z1"
   have e:j4 S Df=false:=by
    unfold j4
    rw[List.all_eq_false]
    exact⟨k,List.mem_range.mpr lt,by simpa using h⟩
   rw[← e];exact q
  ·walk_at "z1"
   refine⟨lt,fun j hj'=>?_,some _,some _,rfl⟩
   by_cases z:j=k
   ·subst z;simpa using h
   ·exact hj j (by omega)
 ·rintro Γ ⟨hk,hj,s,s',rfl⟩
  walk_at "z1"
  have e:j4 S Df=true:=by
   unfold j4
   rw[List.all_eq_true]
   intro j hj'
   rw[List.mem_range] at hj'
   have:=hj j (by unfold vU;simpa using hj')
   simpa using this
  rw[← e];exact q
theorem g_ {A B:List Int} (hl:A.length=B.length) (h:∀ j,j < A.length→A.getD j 0=B.getD j 0):A=B:=by
 refine List.ext_getElem hl fun j h1 h2=>?_
 have:=h j h1
 simpa [List.getD,h1,h2] using this
theorem dA {A B:List Int} {j:Nat}:(A++B).getD j 0=if j < A.length then A.getD j 0 else B.getD (j - A.length) 0:=by
 by_cases h:j < A.length
 ·rw[if_pos h];simp [List.getD,List.getElem?_append_left h]
 ·rw[if_neg h];simp [List.getD,List.getElem?_append_right (Nat.le_of_not_lt h)]
theorem lX {f:Int→Int→List Int} (hf:∀ x y,(f x y).length=2) {S G:List Int}:∀ {k j:Nat},j < k→(dX f S G k).getD (2 * j) 0=(f (S.getD j 0) (G.getD j 0)).getD 0 0∧(dX f S G k).getD (2 * j + 1) 0=(f (S.getD j 0) (G.getD j 0)).getD 1 0
 | 0,j,h=>absurd h (by omega)
 | k + 1,j,h=>by
  have pl:=c_ hf (S:=S) (G:=G) k
  rw[← ip,dA,dA,pl]
  by_cases e:j < k
  ·rw[if_pos (by omega),if_pos (by omega)]
   exact lX hf e
  ·have:j=k:=by omega
   subst this
   rw[if_neg (by omega),if_neg (by omega),show 2 * j - 2 * j=0 by omega,show 2 * j + 1 - 2 * j=1 by omega]
   exact⟨rfl,rfl⟩
theorem iQ (R:Rl) {S G:List Int} (h1:G.length≤S.length) (h2:S.length≤G.length + 1):(dd R S G).length=S.length + G.length:=by
 unfold dd
 rw[List.length_append,c_ (lg R)]
 split <;> simp <;> omega
theorem iR (R:Rl) {S G:List Int} {j:Nat} (h:j < G.length):(dd R S G).getD (2 * j) 0=(R.two (S.getD j 0) (G.getD j 0)).getD 0 0∧(dd R S G).getD (2 * j + 1) 0=(R.two (S.getD j 0) (G.getD j 0)).getD 1 0:=by
 unfold dd
 rw[dA,dA,c_ (lg R),if_pos (by omega),if_pos (by omega)]
 exact lX (lg R) h
theorem lq (R:Rl) {S G:List Int} (h:S.length=G.length + 1):(dd R S G).getD (2 * G.length) 0=R.one (S.getD G.length 0):=by
 unfold dd
 rw[dA,c_ (lg R),if_neg (by omega),if_neg (by omega),show 2 * G.length - 2 * G.length=0 by omega,h]
 rfl
theorem kc {p:Int→Int→Int} {l:Int→Int} {ns:List Int} {j:Nat} (h:j < ns.length / 2):(cb p l ns).getD j 0=p (ns.getD (2 * j) 0) (ns.getD (2 * j + 1) 0):=by
 unfold cb
 rw[dA,ba,if_pos h,cP _ h]
theorem gN {p:Int→Int→Int} {l:Int→Int} {ns:List Int} (h:ns.length % 2=1):(cb p l ns).getD (ns.length / 2) 0=l (ns.getD (ns.length - 1) 0):=by
 unfold cb
 rw[dA,ba,if_neg (by omega),if_pos h,Nat.sub_self]
 rfl
theorem er {p:Int→Int→Int} {l:Int→Int} (ns:List Int):(cb p l ns).length=(ns.length + 1) / 2:=by
 unfold cb
 rw[List.length_append,ba]
 split <;> simp <;> omega
theorem iZ (ns:List Int):(dk ns).length=ns.length / 2:=ba _ _
theorem kx {ns:List Int} {j:Nat} (h:j < ns.length / 2):(dk ns).getD j 0=ns.getD (2 * j) 0 - ns.getD (2 * j + 1) 0:=by
 unfold dk;rw[cP _ h]
theorem qs {R:Rl} (hR:R≠.guess) (ns:List Int):dd R (cb R.pair R.gx ns) (dk ns)=ns:=by
 have l1:=er (p:=R.pair) (l:=R.gx) ns
 have l2:=iZ ns
 have hl:(dd R (cb R.pair R.gx ns) (dk ns)).length=ns.length:=by rw[iQ R (by omega) (by omega),l1,l2];omega
 refine g_ hl fun j hj=>?_
 rw[hl] at hj
 by_cases e:j < 2 * (ns.length / 2)
 ·have hk:j / 2 < ns.length / 2:=by omega
  have g:=iR R (S:=cb R.pair R.gx ns) (G:=dk ns) (j:=j / 2) (by rw[l2];exact hk)
  rw[kc hk,kx hk] at g
  obtain⟨g0,g1⟩:=g
  rcases Nat.mod_two_eq_zero_or_one j with z | z
  ·have ej:j=2 * (j / 2):=by omega
   rw[ej,g0]
   cases R with
   | guess=>exact absurd rfl hR
   | sum=>show ((_ + _) + (_ - _)) / 2=_;omega
   | half=>show (_ + _) / 2 + ((_ - _) + 1) / 2=_;omega
   | lean=>show (_ + _) / 2 + ((_ - _) + 1) / 2=_;omega
  ·have ej:j=2 * (j / 2) + 1:=by omega
   rw[ej,g1]
   cases R with
   | guess=>exact absurd rfl hR
   | sum=>show (_ + _) - ((_ + _) + (_ - _)) / 2=_;omega
   | half=>show (_ + _) / 2 + ((_ - _) + 1) / 2 - (_ - _)=_;omega
   | lean=>show (_ + _) / 2 + ((_ - _) + 1) / 2 - (_ - _)=_;omega
 ·have odd:ns.length % 2=1:=by omega
  have ej:j=2 * (dk ns).length:=by rw[l2];omega
  rw[ej,lq R (by rw[l1,l2];omega),l2,gN odd,show 2 * (ns.length / 2)=ns.length - 1 by omega]
  cases R with
  | guess=>exact absurd rfl hR
  | sum=>show 2 * _ / 2=_;omega
  | half=>rfl
  | lean=>rfl
theorem r9 {F S:List Int} (h:S.length≤F.length):(eP F S).length=F.length + S.length:=by
 unfold eP
 rw[List.length_append,c_ (fun _ _=>rfl),List.length_drop];omega
theorem nZ {F S:List Int} {j:Nat} (h:j < S.length):(eP F S).getD (2 * j) 0=F.getD j 0∧(eP F S).getD (2 * j + 1) 0=S.getD j 0:=by
 unfold eP
 rw[dA,dA,c_ (fun _ _=>rfl),if_pos (by omega),if_pos (by omega)]
 exact lX (fun _ _=>rfl) h
theorem qi {F S:List Int} (h:F.length=S.length + 1):(eP F S).getD (2 * S.length) 0=F.getD S.length 0:=by
 unfold eP
 rw[dA,c_ (fun _ _=>rfl),if_neg (by omega),Nat.sub_self]
 simp [List.getD]
theorem lV {f g:Nat→Int} {k:Nat} (h:∀ j,j < k→f j=g j):rg f k=rg g k:=by
 unfold rg
 exact List.map_congr_left fun j hj=>h j (List.mem_range.mp hj)
theorem mR (A:List Int):rg (fun j=>A.getD j 0) A.length=A:=g_ (ba _ _) fun j hj=>by rw[ba] at hj;rw[cP _ hj]
theorem wF (ns:List Int):eP (fsF ns) (seF ns)=ns:=by
 have l1:=oA ns
 have l2:=tM ns
 have hl:(eP (fsF ns) (seF ns)).length=ns.length:=by rw[r9 (by omega)];omega
 refine g_ hl fun j hj=>?_
 rw[hl] at hj
 by_cases e:j < 2 * (ns.length / 2)
 ·have hk:j / 2 < ns.length / 2:=by omega
  obtain⟨g0,g1⟩:=nZ (F:=fsF ns) (S:=seF ns) (j:=j / 2) (by rw[l2];exact hk)
  rcases Nat.mod_two_eq_zero_or_one j with z | z
  ·have ej:j=2 * (j / 2):=by omega
   rw[ej,g0]
   unfold fsF;rw[cP _ (by omega)]
  ·have ej:j=2 * (j / 2) + 1:=by omega
   rw[ej,g1]
   unfold seF;rw[cP _ hk]
 ·have ej:j=2 * (seF ns).length:=by rw[l2];omega
  rw[ej,qi (by omega),l2]
  unfold fsF;rw[cP _ (by omega)]
theorem sF (R:Rl) (ns:List Int):eA R (R.sums ns) (R.dif ns)=ns:=by
 cases R with
 | sum=>exact qs (R:=.sum) (by simp) ns
 | half=>exact qs (R:=.half) (by simp) ns
 | lean=>
  show dd .lean (cb Rl.lean.pair Rl.lean.gx ns) (rg (fun j=>(rg (fun j=>(dk ns).getD j 0 - dZ (cb Rl.lean.pair Rl.lean.gx ns) j) (ns.length / 2)).getD j 0 + dZ (cb Rl.lean.pair Rl.lean.gx ns) j) (rg (fun j=>(dk ns).getD j 0 - dZ (cb Rl.lean.pair Rl.lean.gx ns) j) (ns.length / 2)).length)=ns
  rw[ba,lV (g:=fun j=>(dk ns).getD j 0) fun j hj=>by rw[cP _ hj];omega]
  rw[show rg (fun j=>(dk ns).getD j 0) (ns.length / 2)=dk ns by have:=mR (dk ns);rw[iZ] at this;exact this]
  exact qs (R:=.lean) (by simp) ns
 | guess=>
  show A7 (rg (fun j=>(fsF ns).getD j 0 + cx (jQ (fsF ns) ns) j) ((ns.length + 1) / 2)) (jQ (fsF ns) ns)=ns
  unfold A7
  have e1:rg (fun j=>(rg (fun j=>(fsF ns).getD j 0 + cx (jQ (fsF ns) ns) j) ((ns.length + 1) / 2)).getD j 0 - cx (jQ (fsF ns) ns) j) (rg (fun j=>(fsF ns).getD j 0 + cx (jQ (fsF ns) ns) j) ((ns.length + 1) / 2)).length=fsF ns:=by
   rw[ba,lV (g:=fun j=>(fsF ns).getD j 0) fun j hj=>by rw[cP _ hj];omega]
   have:=mR (fsF ns)
   rw[oA] at this;exact this
  rw[e1]
  have l:(jQ (fsF ns) ns).length=ns.length / 2:=ba _ _
  have e2:rg (fun j=>(jQ (fsF ns) ns).getD j 0 + eK (fsF ns) j) (jQ (fsF ns) ns).length=seF ns:=by
   rw[l]
   unfold seF
   refine lV fun j hj=>?_
   unfold jQ
   rw[cP _ hj]
   unfold eK
   omega
  rw[e2]
  exact wF ns
theorem GR (R:Rl) {S G:List Int} {n j:Nat} (hn:n=S.length + G.length) (h1:G.length≤S.length) (h2:S.length≤G.length + 1) (h:j < n / 2):j < G.length:=by omega
theorem vc {R:Rl} (hR:R=.half∨R=.lean) {S G:List Int} (h1:G.length≤S.length) (h2:S.length≤G.length + 1):cb R.pair R.gx (dd R S G)=S∧dk (dd R S G)=G:=by
 have l:=iQ R h1 h2
 have hp:∀ x y,R.pair ((R.two x y).getD 0 0) ((R.two x y).getD 1 0)=x:=fun x y=>by
  rcases hR with rfl | rfl <;> (show (x + (y + 1) / 2 + (x + (y + 1) / 2 - y)) / 2=x;omega)
 have hg:∀ x y,(R.two x y).getD 0 0 - (R.two x y).getD 1 0=y:=fun x y=>by
  rcases hR with rfl | rfl <;> (show x + (y + 1) / 2 - (x + (y + 1) / 2 - y)=y;omega)
 have hl:∀ x,R.gx (R.one x)=x:=fun x=>by rcases hR with rfl | rfl <;> rfl
 constructor
 ·refine g_ (by rw[er];omega) fun j hj=>?_
  rw[er] at hj
  by_cases e:j < G.length
  ·rw[kc (by omega),(iR R e).1,(iR R e).2,hp]
  ·have ej:j=(dd R S G).length / 2:=by omega
   rw[ej,gN (by omega),show (dd R S G).length - 1=2 * G.length by omega,lq R (by omega),hl]
   congr 1;omega
 ·refine g_ (by rw[iZ];omega) fun j hj=>?_
  rw[iZ] at hj
  rw[kx hj,(iR R (by omega)).1,(iR R (by omega)).2,hg]
theorem z4 {S G:List Int} (h1:G.length≤S.length) (h2:S.length≤G.length + 1):(Rl.sum.sums (dd .sum S G)=S∧Rl.sum.dif (dd .sum S G)=G)↔j4 S G=true:=by
 have l:=iQ .sum h1 h2
 have g0:∀ {j:Nat},j < G.length→(dd .sum S G).getD (2 * j) 0=(S.getD j 0 + G.getD j 0) / 2∧(dd .sum S G).getD (2 * j + 1) 0=S.getD j 0 - (S.getD j 0 + G.getD j 0) / 2:=fun h=>iR .sum h
 have ev:∀ {j:Nat},j < G.length→(G++[0]).getD j 0=G.getD j 0:=fun h=>by rw[dA,if_pos h]
 have el:(G++[0]).getD G.length 0=0:=by rw[dA,if_neg (by omega),Nat.sub_self];rfl
 constructor
 ·rintro⟨hs,hd⟩
  unfold j4
  rw[List.all_eq_true]
  intro j hj
  rw[List.mem_range] at hj
  have:¬ (S.getD j 0 - (G++[0]).getD j 0) % 2=1:=by
   by_cases e:j < G.length
   ·rw[ev e]
    have hd:dk (dd .sum S G)=G:=hd
    have q:(dk (dd .sum S G)).getD j 0=G.getD j 0:=by rw[hd]
    rw[kx (by omega),(g0 e).1,(g0 e).2] at q
    omega
   ·have ej:j=G.length:=by omega
    subst ej
    rw[el]
    have hs:cb Rl.sum.pair Rl.sum.gx (dd .sum S G)=S:=hs
    have q:(cb Rl.sum.pair Rl.sum.gx (dd .sum S G)).getD G.length 0=S.getD G.length 0:=by rw[hs]
    have z:(dd .sum S G).length / 2=G.length:=by omega
    have w:=gN (p:=Rl.sum.pair) (l:=Rl.sum.gx) (ns:=dd .sum S G) (by omega)
    rw[z,show (dd .sum S G).length - 1=2 * G.length by omega,lq .sum (by omega)] at w
    rw[w] at q
    have q:2 * (S.getD G.length 0 / 2)=S.getD G.length 0:=q
    omega
  simpa using this
 ·intro h
  unfold j4 at h
  rw[List.all_eq_true] at h
  have h:∀ j,j < S.length→¬ (S.getD j 0 - (G++[0]).getD j 0) % 2=1:=fun j hj=>by simpa using h j (List.mem_range.mpr hj)
  constructor
  ·show cb Rl.sum.pair Rl.sum.gx (dd .sum S G)=S
   refine g_ (by rw[er];omega) fun j hj=>?_
   rw[er] at hj
   by_cases e:j < G.length
   ·rw[kc (by omega),(g0 e).1,(g0 e).2]
    show (S.getD j 0 + G.getD j 0) / 2 + (S.getD j 0 - (S.getD j 0 + G.getD j 0) / 2)=_
    omega
   ·have ej:j=(dd .sum S G).length / 2:=by omega
    have z:(dd .sum S G).length / 2=G.length:=by omega
    rw[ej,gN (by omega),show (dd .sum S G).length - 1=2 * G.length by omega,lq .sum (by omega),z]
    have q:=h G.length (by omega)
    rw[el] at q
    show 2 * (S.getD G.length 0 / 2)=S.getD G.length 0
    omega
  ·show dk (dd .sum S G)=G
   refine g_ (by rw[iZ];omega) fun j hj=>?_
   rw[iZ] at hj
   have e:j < G.length:=by omega
   have q:=h j (by omega)
   rw[ev e] at q
   rw[kx hj,(g0 e).1,(g0 e).2]
   omega
theorem vR (R:Rl) {S Df:List Int} (h1:Df.length≤S.length) (h2:S.length≤Df.length + 1):(eA R S Df).length=S.length + Df.length:=by
 cases R with
 | sum=>exact iQ .sum h1 h2
 | half=>exact iQ .half h1 h2
 | lean=>
  show (dd .lean S (rg _ Df.length)).length=_
  rw[iQ .lean (by rw[ba];exact h1) (by rw[ba];exact h2),ba]
 | guess=>
  show (eP (rg _ S.length) (rg _ Df.length)).length=_
  rw[r9 (by rw[ba,ba];exact h1),ba,ba]
theorem ph {R:Rl} (hR:R≠.sum) {S Df:List Int} (h1:Df.length≤S.length) (h2:S.length≤Df.length + 1):R.sums (eA R S Df)=S∧R.dif (eA R S Df)=Df:=by
 have jl:=vR R h1 h2
 cases R with
 | sum=>exact absurd rfl hR
 | half=>exact vc (.inl rfl) h1 h2
 | lean=>
  obtain⟨a,b⟩:=vc (R:=.lean) (.inr rfl) (S:=S) (G:=rg (fun j=>Df.getD j 0 + dZ S j) Df.length) (by rw[ba];exact h1) (by rw[ba];exact h2)
  refine⟨a,?_⟩
  show rg (fun j=>(dk (dd .lean S (rg (fun j=>Df.getD j 0 + dZ S j) Df.length))).getD j 0 - dZ (cb Rl.lean.pair Rl.lean.gx (dd .lean S (rg (fun j=>Df.getD j 0 + dZ S j) Df.length))) j) ((eA .lean S Df).length / 2)=Df
  rw[a,b,show (eA .lean S Df).length / 2=Df.length by omega]
  rw[lV (g:=fun j=>Df.getD j 0) fun j hj=>by rw[cP _ hj];omega]
  exact mR Df
 | guess=>
  have fl:(rg (fun j=>S.getD j 0 - cx Df j) S.length).length=S.length:=ba _ _
  have sl:(rg (fun j=>Df.getD j 0 + eK (rg (fun j=>S.getD j 0 - cx Df j) S.length) j) Df.length).length=Df.length:=ba _ _
  have ef:fsF (eA .guess S Df)=rg (fun j=>S.getD j 0 - cx Df j) S.length:=by
   unfold fsF
   rw[show ((eA .guess S Df).length + 1) / 2=S.length by omega]
   refine lV fun j hj=>?_
   show (eP _ _).getD (2 * j) 0=_
   by_cases e:j < Df.length
   ·rw[(nZ (by rw[sl];exact e)).1,cP _ hj]
   ·have w:=qi (F:=rg (fun j=>S.getD j 0 - cx Df j) S.length) (S:=rg (fun j=>Df.getD j 0 + eK (rg (fun j=>S.getD j 0 - cx Df j) S.length) j) Df.length) (by rw[fl,sl];omega)
    rw[sl] at w
    have ej:j=Df.length:=by omega
    rw[ej,w,cP _ (by omega)]
  have ed:jQ (fsF (eA .guess S Df)) (eA .guess S Df)=Df:=by
   rw[ef]
   unfold jQ
   rw[show (eA .guess S Df).length / 2=Df.length by omega]
   rw[lV (g:=fun j=>Df.getD j 0) fun j hj=>?_]
   ·exact mR Df
   ·show (eP _ _).getD (2 * j + 1) 0 - _=_
    rw[(nZ (by rw[sl];exact hj)).2,cP _ hj]
    unfold eK
    omega
  refine⟨?_,ed⟩
  show rg (fun j=>(fsF (eA .guess S Df)).getD j 0 + cx (jQ (fsF (eA .guess S Df)) (eA .guess S Df)) j) (((eA .guess S Df).length + 1) / 2)=S
  rw[ed,ef,show ((eA .guess S Df).length + 1) / 2=S.length by omega]
  rw[lV (g:=fun j=>S.getD j 0) fun j hj=>by rw[cP _ hj];omega]
  exact mR S
theorem Rl.iO (R:Rl) (ns:List Int):(R.sums ns).length=(ns.length + 1) / 2:=by
 cases R with
 | guess=>exact ba _ _
 | sum=>exact er _
 | half=>exact er _
 | lean=>exact er _
theorem Rl.qg (R:Rl) (ns:List Int):(R.dif ns).length=ns.length / 2:=by
 cases R <;> exact ba _ _
theorem tL {x:S3} (R:Rl):R.sel x x x x=x:=by cases R <;> rfl
def Shn (ns:List Int):Prop:=ns.length≤200∧∀ n∈ns,n.natAbs < 10 ^ 60
theorem z6 {ns:List Int} (h:Shn ns):Sh 20403 2 (il ns):=.lst (n:=100) (k:=1) (l:=200) (fun x hx=>by
  obtain⟨n,hn,rfl⟩:=List.mem_map.mp hx
  exact .int (h.2 n hn)) (by rw[List.length_map];exact h.1)
theorem tI {ns:List Int} (h:Shn ns):Sh 10000000 20 (il ns):=(z6 h).up (by decide) (by decide)
theorem tH {A B:List Int} (h1:Shn A) (h2:Shn B):Sh 10000000 20 (.tup [il A,il B]):=.up (.tup (n:=20403) (k:=2) (l:=2) (fun x hx=>by
  simp only[List.mem_cons,List.not_mem_nil,or_false] at hx
  rcases hx with rfl | rfl
  ·exact z6 h1
  ·exact z6 h2) (by simp)) (by decide) (by decide)
theorem nF {ns:List Int} (h:Fig ns) (hl:ns.length≤200):Shn ns:=⟨hl,fun n hn=>by
 have:=h n hn
 exact Nat.lt_of_lt_of_le (show n.natAbs < 10 ^ 15 by omega) (Nat.pow_le_pow_right (by decide) (by decide))⟩
theorem zy {A B:List Int} (h:Fig (A++B)):Fig A∧Fig B:=⟨fun n hn=>h n (List.mem_append_left _ hn),fun n hn=>h n (List.mem_append_right _ hn)⟩
def IJ (a:Ad):S3:=fun Γ Q=>∃ (R:Rl) (ns:List Int),Γ=[some (.fz (R.ob a)),some (.fz (il ns))]∧Fig ns∧2≤ns.length∧ns.length≤64∧Q (.fz (.bl true)) Γ
theorem iq (T:Txt K mg a):aY P w K mg base CX0 6 a.fM a.e9 ["_law_rule","_law_row_here"] (sp3 K 2 (IJ a)):=by
 refine ok3 T.fY eR (hbody:=fun cdv A outer s H E hr=>⟨_,_,(ao (x5 (is:=[2,3]) (by rfl) (P3.or (av (by rfl) (bv 0) T.cN T.dY (aD T) (hr.mono (by decide)) T.aH (aa (P3.opd (bZ (fV (by rfl)) (by rfl) T.z_list (by decide +kernel) (aa (bv 1) ae))) ae)) (P3.or (av (by rfl) (bv 0) T.bA T.dh (aD T) (hr.mono (by decide)) T.aH (aa (P3.opd (bZ (fV (by rfl)) (by rfl) T.z_list (by decide +kernel) (aa (bv 1) ae))) ae)) (P3.or (av (by rfl) (bv 0) T.cq T.cT (aD T) (hr.mono (by decide)) T.aH (aa (P3.opd (bZ (fV (by rfl)) (by rfl) T.z_list (by decide +kernel) (aa (bv 1) ae))) ae)) (av (by rfl) (bv 0) T.bu T.cS (aD T) (hr.mono (by decide)) T.aH (aa (P3.opd (bZ (fV (by rfl)) (by rfl) T.z_list (by decide +kernel) (aa (bv 1) ae))) ae))))) (aS (bc (i:=2) eR.nd rfl (Or.inl rfl)) (aS (bc (i:=3) eR.nd rfl (Or.inl rfl)) dq)) rfl)
   (ao (cJ (cf (cc (ar (by rfl) (lN T) (hr.mono (by decide)) (by rfl) T.nA T.jV.kp T.nQ (aa (P3.opd (br (bv 2) (bv 3))) ae)))) (aq (au gj)) bF)
   (aq (au (fJ (hV (by rfl) hr) (P3.opd (aB (oO (by rfl) hr) (by rfl) T.z_repr (by decide +kernel) (aa (P3.opd (P3.or (av (by rfl) (bv 0) T.cN T.jA (bH T) (hr.mono (by decide)) T.bV (aa (P3.opd (p3v 2)) (aa (P3.opd (p3v 3)) ae))) (P3.or (av (by rfl) (bv 0) T.bA T.gU (bH T) (hr.mono (by decide)) T.bV (aa (P3.opd (p3v 2)) (aa (P3.opd (p3v 3)) ae))) (P3.or (av (by rfl) (bv 0) T.cq T.gw (bH T) (hr.mono (by decide)) T.bV (aa (P3.opd (p3v 2)) (aa (P3.opd (p3v 3)) ae))) (av (by rfl) (bv 0) T.bu T.gv (bH T) (hr.mono (by decide)) T.bV (aa (P3.opd (p3v 2)) (aa (P3.opd (p3v 3)) ae))))))) ae))) (P3.opd (aB (oO (by rfl) hr) (by rfl) T.z_repr (by decide +kernel) (aa (bv 1) ae))) (bW _)))))),fun Γa Q h hl=>?_⟩)
 obtain⟨R,ns,rfl,hf,h1,h2,q⟩:=h
 have e1:=R.iO ns
 have e2:=R.qg ns
 walk_at "z1"
 refine iD R ?_
 rw[tL]
 walk_at "z1"
 refine⟨R,ns,rfl,hf,h1,h2,?_⟩
 walk_at "z1"
 refine⟨by rw[List.length_map,List.length_map,sizeLine_eq];omega,R.sums ns++R.dif ns,by rw[il,List.map_append],by rw[List.length_append];omega,?_⟩
 walk_at "z1"
 refine jj (fun h=>?_) (fun h=>?_)
 ·walk_at "z1"
  exact q
 ·have hs:mG (R.sums ns++R.dif ns)=true:=by simpa using h
  obtain⟨g1,g2⟩:=zy (sk hs)
  walk_at "z1"
  refine iD R ?_
  rw[tL]
  walk_at "z1"
  refine⟨R,_,_,rfl,g1,g2,by omega,by omega,by omega,by omega,?_⟩
  rw[sF]
  walk_at "z1"
  exact⟨tI (nF hf (by omega)),tI (nF hf (by omega)),q⟩
theorem mem_getD {A:List Int} {n:Int} (h:n∈A):∃ j,j < A.length∧A.getD j 0=n:=by
 obtain⟨j,hj,e⟩:=List.mem_iff_getElem.mp h
 exact⟨j,hj,by simp [List.getD,hj,e]⟩
theorem fg {ns:List Int} (f:Fig ns) (j:Nat):-1000000000000000 < ns.getD j 0∧ns.getD j 0 < 1000000000000000:=by
 by_cases h:j < ns.length
 ·exact yy f h
 ·have:ns.getD j 0=0:=by simp [List.getD,Nat.le_of_not_lt h]
  rw[this];decide
theorem big {n:Int} (h1:-10000000000000000 < n) (h2:n < 10000000000000000):n.natAbs < 10 ^ 60:=Nat.lt_of_lt_of_le (show n.natAbs < 10 ^ 16 by omega) (Nat.pow_le_pow_right (by decide) (by decide))
theorem Cj {ns:List Int} (f:Fig ns) (h:ns.length≤64):Shn (Rl.sum.sums ns)∧Shn (Rl.sum.dif ns):=by
 refine⟨⟨by rw[Rl.iO];omega,fun n hn=>?_⟩,⟨by rw[Rl.qg];omega,fun n hn=>?_⟩⟩
 ·obtain⟨j,hj,rfl⟩:=mem_getD hn
  rw[Rl.iO] at hj
  show ((cb Rl.sum.pair Rl.sum.gx ns).getD j 0).natAbs < _
  by_cases e:j < ns.length / 2
  ·rw[kc e]
   have a1:=fg f (2 * j)
   have a2:=fg f (2 * j + 1)
   exact big (show _ < _ + _ by omega) (show _ + _ < _ by omega)
  ·rw[show j=ns.length / 2 by omega,gN (by omega)]
   have a1:=fg f (ns.length - 1)
   exact big (show _ < 2 * _ by omega) (show 2 * _ < _ by omega)
 ·obtain⟨j,hj,rfl⟩:=mem_getD hn
  rw[Rl.qg] at hj
  show ((dk ns).getD j 0).natAbs < _
  rw[kx hj]
  have a1:=fg f (2 * j)
  have a2:=fg f (2 * j + 1)
  exact big (by omega) (by omega)
def Jh (a:Ad):S3:=fun Γ Q=>∃ (R:Rl) (S Df:List Int),Γ=[some (.fz (R.ob a)),some (.fz (il S)),some (.fz (il Df))]∧Fig S∧Fig Df∧1≤Df.length∧Df.length≤S.length∧S.length≤Df.length + 1∧S.length + Df.length≤64∧Q (.fz (.bl true)) Γ
theorem gk (T:Txt K mg a):aY P w K mg base CX0 6 a.eE a.d7 ["_law_rule","_law_sums","_law_differences"] (sp3 K 3 (Jh a)):=by
 refine ok3 T.eF dR (hbody:=fun cdv A outer s H E hr=>⟨_,_,(ao (bI (i:=3) dR.nd rfl (Or.inl rfl) (P3.or (av (by rfl) (bv 0) T.cN T.jA (bH T) (hr.mono (by decide)) T.bV (aa (P3.opd (bZ (fV (by rfl)) (by rfl) T.z_list (by decide +kernel) (aa (bv 1) ae))) (aa (P3.opd (bZ (fV (by rfl)) (by rfl) T.z_list (by decide +kernel) (aa (bv 2) ae))) ae))) (P3.or (av (by rfl) (bv 0) T.bA T.gU (bH T) (hr.mono (by decide)) T.bV (aa (P3.opd (bZ (fV (by rfl)) (by rfl) T.z_list (by decide +kernel) (aa (bv 1) ae))) (aa (P3.opd (bZ (fV (by rfl)) (by rfl) T.z_list (by decide +kernel) (aa (bv 2) ae))) ae))) (P3.or (av (by rfl) (bv 0) T.cq T.gw (bH T) (hr.mono (by decide)) T.bV (aa (P3.opd (bZ (fV (by rfl)) (by rfl) T.z_list (by decide +kernel) (aa (bv 1) ae))) (aa (P3.opd (bZ (fV (by rfl)) (by rfl) T.z_list (by decide +kernel) (aa (bv 2) ae))) ae))) (av (by rfl) (bv 0) T.bu T.gv (bH T) (hr.mono (by decide)) T.bV (aa (P3.opd (bZ (fV (by rfl)) (by rfl) T.z_list (by decide +kernel) (aa (bv 1) ae))) (aa (P3.opd (bZ (fV (by rfl)) (by rfl) T.z_list (by decide +kernel) (aa (bv 2) ae))) ae)))))))
   (ao (cJ (b9 (q8 (by rfl) hr) (P3.opd (aB (dn (by rfl)) (by rfl) T.z_len (by decide +kernel) (aa (bv 3) ae))) (P3.opd (br (P3.opd (aB (dn (by rfl)) (by rfl) T.z_len (by decide +kernel) (aa (bv 1) ae))) (P3.opd (aB (dn (by rfl)) (by rfl) T.z_len (by decide +kernel) (aa (bv 2) ae))))) (bW _)) (aq (au gj)) bF)
   (ao (cJ (cf (cc (ar (by rfl) (lN T) (hr.mono (by decide)) (by rfl) T.nA T.jV.kp T.nQ (aa (P3.opd (p3v 3)) ae)))) (aq (au gj)) bF)
   (ao (bI (i:=4) dR.nd rfl (Or.inl rfl) (D0 (fJ (q8 (by rfl) hr) (P3.opd (P3.or (eI (by rfl) (bv 0) T.cN T.m9 (mY T) (hr.mono (by decide)) T.pw) (P3.or (eI (by rfl) (bv 0) T.bA T.ko (km T) (hr.mono (by decide)) T.lT) (P3.or (eI (by rfl) (bv 0) T.cq T.j1 (jZ T) (hr.mono (by decide)) T.kX) (eI (by rfl) (bv 0) T.bu T.j0 (jY T) (hr.mono (by decide)) T.kW))))) (P3.opd iC) (bW _)) (w6 (ar (by rfl) (ub T) (hr.mono (by decide)) (by rfl) T.vL T.pK.kp T.wo (aa (P3.opd (p3v 1)) (aa (P3.opd (p3v 2)) ae))))))
   (aq (au (fJ (hV (by rfl) hr) (P3.opd (fJ (hV (by rfl) hr) (P3.opd (aB (oO (by rfl) hr) (by rfl) T.z_repr (by decide +kernel) (aa (P3.opd (P3.or (av (by rfl) (bv 0) T.cN T.dY (aD T) (hr.mono (by decide)) T.aH (aa (P3.opd (p3v 3)) ae)) (P3.or (av (by rfl) (bv 0) T.bA T.dh (aD T) (hr.mono (by decide)) T.aH (aa (P3.opd (p3v 3)) ae)) (P3.or (av (by rfl) (bv 0) T.cq T.cT (aD T) (hr.mono (by decide)) T.aH (aa (P3.opd (p3v 3)) ae)) (av (by rfl) (bv 0) T.bu T.cS (aD T) (hr.mono (by decide)) T.aH (aa (P3.opd (p3v 3)) ae)))))) ae))) (P3.opd (aB (oO (by rfl) hr) (by rfl) T.z_repr (by decide +kernel) (aa (P3.opd (n_ (ag (p3v 1) (ag (p3v 2) aA)))) ae))) (bW _))) (bv 4) (bW _)))))))),fun Γa Q h hl=>?_⟩)
 obtain⟨R,S,Df,rfl,f1,f2,h1,h2,h3,h4,q⟩:=h
 have jl:=vR R h2 h3
 walk_at "z1"
 refine iD R ?_
 rw[tL]
 walk_at "z1"
 refine⟨R,S,Df,rfl,f1,f2,h1,h2,h3,h4,?_⟩
 walk_at "z1"
 rw[List.length_map,List.length_map,List.length_map,jl]
 refine jj (fun h=>?_) (fun h=>?_)
 ·exfalso
  simp at h
 walk_at "z1"
 refine⟨eA R S Df,rfl,by omega,?_⟩
 walk_at "z1"
 refine jj (fun h=>?_) (fun h=>?_)
 ·walk_at "z1"
  exact q
 have hs:mG (eA R S Df)=true:=by simpa using h
 have fj:=sk hs
 walk_at "z1"
 refine iD R ?_
 rw[show R.sel (jq "sum") (jq "half") (jq "guess") (jq "lean")=jq R.word by cases R <;> rfl]
 walk_at "z1"
 refine⟨_,rfl,?_⟩
 walk_at "z1"
 have shS:Shn S:=nF f1 (by omega)
 have shD:Shn Df:=nF f2 (by omega)
 by_cases hR:R=.sum
 ·subst hR
  rw[show (!Rl.sum.word == Str.ofString "sum")=false by decide +kernel]
  refine⟨S,Df,rfl,h3,by omega,by omega,?_⟩
  walk_at "z1"
  refine iD .sum ?_
  rw[tL]
  walk_at "z1"
  refine⟨.sum,_,rfl,fj,by omega,by omega,?_⟩
  walk_at "z1"
  obtain⟨s1,s2⟩:=Cj fj (by omega)
  refine⟨tH s1 s2,by rw[sizeLine_eq];omega,tH shS shD,?_⟩
  rw[show (shw (D.tup [D.lst (List.map D.int (Rl.sum.sums (eA Rl.sum S Df))),D.lst (List.map D.int (Rl.sum.dif (eA Rl.sum S Df)))]) == shw (D.tup [il S,il Df]))=j4 S Df from ?_]
  ·rw[show (j4 S Df == j4 S Df)=true by simp];exact q
  ·have iff:=z4 (S:=S) (G:=Df) h2 h3
   cases e:j4 S Df
   ·rw[beq_eq_false_iff_ne]
    intro z
    have:=iff.mp (tG z)
    rw[e] at this;cases this
   ·obtain⟨a1,a2⟩:=iff.mpr e
    rw[beq_iff_eq]
    show shw (D.tup [D.lst (List.map D.int (Rl.sum.sums (dd .sum S Df))),D.lst (List.map D.int (Rl.sum.dif (dd .sum S Df)))])=_
    rw[a1,a2]
 ·rw[show (!R.word == Str.ofString "sum")=true by cases R <;> first | exact absurd rfl hR | decide +kernel]
  refine iD R ?_
  rw[tL]
  walk_at "z1"
  refine⟨R,_,rfl,fj,by omega,by omega,?_⟩
  rw[(ph hR h2 h3).1,(ph hR h2 h3).2]
  walk_at "z1"
  exact⟨tH shS shD,by rw[sizeLine_eq];omega,tH shS shD,q⟩
abbrev Ent:=Addr×Addr×List Int
def lK (e:Ent):D:=.tup [.cel e.1 (e.2.2.map .int),.cel e.2.1 (e.2.2.map .int)]
def ads:List Ent→List Addr
 | []=>[]
 | e::es=>e.1::e.2.1::ads es
theorem yL:∀ (xs ys:List Ent),ads (xs++ys)=ads xs++ads ys
 | [],ys=>rfl
 | x::xs,ys=>by rw[List.cons_append,ads,yL xs ys];rfl
theorem qY:∀ ns:List Int,gI (ns.map D.int)=[]
 | []=>by rw[List.map_nil,gI]
 | n::ns=>by rw[List.map_cons,gI,qY ns];simp [fv]
theorem BM (e:Ent):fv (lK e)=[e.1,e.2.1]:=by
 unfold lK
 rw[fv,gI,gI,gI,fv,fv,qY];rfl
theorem sP:∀ es:List Ent,gI (es.map lK)=ads es
 | []=>by rw[List.map_nil,gI,ads]
 | e::es=>by rw[List.map_cons,gI,BM,sP es,ads];rfl
theorem nK:∀ {Γ:G} {i:Nat} {s:Sl} {q:Addr},Γ[i]?=some (some s)→q∈fv s.d→q∈hU Γ
 | [],i,s,q,e,h=>by simp at e
 | none::Γ,0,s,q,e,h=>by simp at e
 | none::Γ,i + 1,s,q,e,h=>by rw[hU];exact nK (i:=i) (by simpa using e) h
 | some s'::Γ,0,s,q,e,h=>by
  have:s'=s:=by simpa using e
  subst this
  rw[hU];exact List.mem_append_left _ h
 | some s'::Γ,i + 1,s,q,e,h=>by rw[hU];exact List.mem_append_right _ (nK (i:=i) (by simpa using e) h)
theorem m8 {Γ:G} {i:Nat} {es:List Ent} {p:Addr} (h:p∉hU Γ) (e:Γ[i]?=some (some (.ow (.lst (es.map lK))))):p∉ads es:=fun q=>h (nK e (by show p∈fv (.lst (es.map lK));rw[fv,sP];exact q))
theorem lA {Γ:G} {i:Nat} {q p:Addr} {xs:List D} (h:p∉hU Γ) (e:Γ[i]?=some (some (.fz (.cel q xs)))):p≠q:=fun z=>h (nK e (by show p∈fv (.cel q xs);rw[fv,z];exact List.mem_cons_self))
theorem mT:∀ ns:List Int,iU (ns.map D.int)=true
 | []=>by rw[List.map_nil,iU]
 | n::ns=>by rw[List.map_cons,iU,pin,mT ns];rfl
theorem vt:∀ es:List Ent,iU (es.map lK)=true
 | []=>by rw[List.map_nil,iU]
 | e::es=>by
  rw[List.map_cons,iU,vt es]
  unfold lK
  rw[pin,iU,iU,iU,pin,pin,mT];rfl
theorem qV (p:Addr):∀ ns:List Int,h_ p (ns.map D.int)=ns.map D.int
 | []=>by rw[List.map_nil,h_]
 | n::ns=>by rw[List.map_cons,h_,clr,qV p ns]
def BD (p:Addr) (e:Ent):D:=.tup [.cel e.1 ((if e.1=p then [] else e.2.2).map .int),.cel e.2.1 ((if e.2.1=p then [] else e.2.2).map .int)]
theorem Dx (p:Addr) (e:Ent):clr p (lK e)=BD p e:=by
 unfold lK BD
 rw[clr,h_,h_,h_,clr,clr,qV]
 congr 2
 ·split <;> rfl
 ·congr 1
  split <;> rfl
theorem v3 (p:Addr):∀ es:List Ent,h_ p (es.map lK)=es.map (BD p)
 | []=>by rw[List.map_nil,h_,List.map_nil]
 | e::es=>by rw[List.map_cons,h_,Dx,v3 p es,List.map_cons]
theorem few {p:Addr}:∀ {es:List Ent},(ads es).Nodup→(es.filter fun e=>decide (e.1=p)).length≤1
 | [],_=>by simp
 | e::es,h=>by
  rw[ads,List.nodup_cons,List.nodup_cons] at h
  by_cases z:e.1=p
  ·have:es.filter (fun e=>decide (e.1=p))=[]:=by
    rw[List.filter_eq_nil_iff]
    intro x hx
    simp only[decide_eq_true_eq]
    intro q
    have m:∀ {es:List Ent} {x:Ent},x∈es→x.1∈ads es:=fun {es x} h=>by
     induction es with
     | nil=>cases h
     | cons y ys ih=>
      rw[ads]
      rcases List.mem_cons.mp h with rfl | h
      ·exact List.mem_cons_self
      ·exact List.mem_cons_of_mem _ (List.mem_cons_of_mem _ (ih h))
    exact h.1 (List.mem_cons_of_mem _ (by rw[z,← q];exact m hx))
   rw[List.filter_cons,if_pos (by simpa using z),this];simp
  ·rw[List.filter_cons,if_neg (by simpa using z)]
   exact few h.2.2
theorem yp {p:Addr}:∀ {es:List Ent},(ads es).Nodup→(∃ e∈es,e.1=p)→∀ e∈es,e.2.1≠p
 | [],_,h=>by obtain⟨e,he,_⟩:=h;cases he
 | e::es,h,⟨x,hx,q⟩=>by
  have m1:∀ {es:List Ent} {x:Ent},x∈es→x.1∈ads es∧x.2.1∈ads es:=fun {es x} h=>by
   induction es with
   | nil=>cases h
   | cons y ys ih=>
    rw[ads]
    rcases List.mem_cons.mp h with rfl | h
    ·exact⟨List.mem_cons_self,List.mem_cons_of_mem _ List.mem_cons_self⟩
    ·exact⟨List.mem_cons_of_mem _ (List.mem_cons_of_mem _ (ih h).1),List.mem_cons_of_mem _ (List.mem_cons_of_mem _ (ih h).2)⟩
  rw[ads,List.nodup_cons,List.nodup_cons] at h
  intro y hy z
  rcases List.mem_cons.mp hx with hx1 | hx1
  ·have e1:e.1=p:=by rw[← hx1];exact q
   rcases List.mem_cons.mp hy with hy1 | hy1
   ·have e2:e.2.1=p:=by rw[← hy1];exact z
    exact h.1 (by rw[e1,e2];exact List.mem_cons_self)
   ·exact h.1 (List.mem_cons_of_mem _ (by rw[e1,← z];exact(m1 hy1).2))
  ·rcases List.mem_cons.mp hy with hy1 | hy1
   ·have e2:e.2.1=p:=by rw[← hy1];exact z
    exact h.2.1 (by rw[e2,← q];exact(m1 hx1).1)
   ·exact yp h.2.2 ⟨x,hx1,q⟩ y hy1 z
def Bd (m:Int) (A:List Int):Prop:=∀ j,-m < A.getD j 0∧A.getD j 0 < m
theorem wc {f:Nat→Int} {k:Nat} {m:Int} (hm:0 < m) (h:∀ j,j < k→-m < f j∧f j < m):Bd m (rg f k):=fun j=>by
 by_cases e:j < k
 ·rw[cP _ e];exact h j e
 ·have:(rg f k).getD j 0=0:=by simp [List.getD,rg,Nat.le_of_not_lt e]
  rw[this];omega
theorem we {A:List Int} {m:Int} (h:Bd m A) (k:Int):-m < nrF A k∧nrF A k < m:=h _
theorem jS {A:List Int} {m:Int} (h:Bd m A) (hm:m≤1000000000000000):Fig A:=fun n hn=>by
 obtain⟨j,hj,rfl⟩:=mem_getD hn
 have:=h j
 omega
theorem HY {A:List Int} {m:Int} (hm:0 < m) (h:∀ n∈A,-m < n∧n < m):Bd m A:=fun j=>by
 by_cases e:j < A.length
 ·exact h _ (by simp [List.getD,e])
 ·have:A.getD j 0=0:=by simp [List.getD,Nat.le_of_not_lt e]
  rw[this];omega
theorem DD {p:Int→Int→Int} {l:Int→Int} {ns:List Int} {m M:Int} (hM:0 < M) (h:Bd m ns) (hp:∀ x y,-m < x→x < m→-m < y→y < m→-M < p x y∧p x y < M) (hl:∀ x,-m < x→x < m→-M < l x∧l x < M):Bd M (cb p l ns):=fun j=>by
 by_cases e:j < ns.length / 2
 ·rw[kc e]
  exact hp _ _ (h _).1 (h _).2 (h _).1 (h _).2
 ·by_cases z:ns.length % 2=1∧j=ns.length / 2
  ·rw[z.2,gN z.1]
   exact hl _ (h _).1 (h _).2
  ·have:(cb p l ns).getD j 0=0:=by
    have:(cb p l ns).length≤j:=by rw[er];omega
    simp [List.getD,this]
   rw[this];omega
theorem xJ {ns:List Int} {R:Rl} (h:Bd 1000000000100 ns):Fig (R.sums ns)∧Fig (R.dif ns):=by
 have hs:∀ R:Rl,Bd 3000000000000 (cb R.pair R.gx ns):=fun R=>DD (by decide) h (fun x y a b c d=>by cases R <;> first | (show _ < x + y∧x + y < _;omega) | (show _ < (x + y) / 2∧(x + y) / 2 < _;omega)) (fun x a b=>by cases R <;> first | (show _ < 2 * x∧2 * x < _;omega) | (show _ < x∧x < _;omega))
 have hg:Bd 3000000000000 (dk ns):=wc (by decide) fun j _=>by
  have a:=h (2 * j)
  have b:=h (2 * j + 1)
  omega
 cases R with
 | sum=>exact⟨jS (hs .sum) (by decide),jS hg (by decide)⟩
 | half=>exact⟨jS (hs .half) (by decide),jS hg (by decide)⟩
 | lean=>
  refine⟨jS (hs .lean) (by decide),jS (m:=10000000000000) (wc (by decide) fun j _=>?_) (by decide)⟩
  have a:=hg j
  have b:=we (hs .lean) ((j:Int) - 1)
  have c:=we (hs .lean) ((j:Int) + 1)
  unfold dZ
  omega
 | guess=>
  have hf:Bd 1000000000100 (fsF ns):=wc (by decide) fun j _=>h _
  have hd:Bd 4000000000000 (jQ (fsF ns) ns):=wc (by decide) fun j _=>by
   have a:=h (2 * j + 1)
   have b:=hf j
   have c:=we hf ((j:Int) + 1)
   omega
  refine⟨jS (m:=10000000000000) (wc (by decide) fun j _=>?_) (by decide),jS hd (by decide)⟩
  have a:=hf j
  have b:=we hd ((j:Int) - 1)
  have c:=we hd (j:Int)
  unfold cx
  omega
theorem lW {s:Option D}:E_ (fo s):=by cases s <;> trivial
theorem Gg {p:Addr} {s:Option D}:qW p (fo s)=none:=by cases s <;> rfl
theorem Bx {A B:List Int}:eqN 21 (.tup [.lst (A.map .int),.lst (B.map .int)]) (.tup [.lst (A.map .int),.lst (B.map .int)])=some true:=by
 have h1:=i4 (n:=19) A A
 have h2:=i4 (n:=19) B B
 rw[eqN,fU,fU,fU,h1,h2]
 simp
theorem xg {A L:List Addr} {t h:Addr} (nd:(A++t::L).Nodup) (h1:h∉A) (h2:h≠t) (h3:h∉L):(A++[t,h]++L).Nodup:=by
 rw[List.nodup_append] at nd
 obtain⟨a,b,c⟩:=nd
 rw[List.nodup_cons] at b
 rw[List.append_assoc,List.nodup_append]
 refine⟨a,?_,fun x hx y hy z=>?_⟩
 ·show (t::h::L).Nodup
  rw[List.nodup_cons,List.nodup_cons]
  exact⟨fun q=>(List.mem_cons.mp q).elim (fun q=>h2 q.symm) b.1,h3,b.2⟩
 ·have hy:y∈t::h::L:=hy
  rcases List.mem_cons.mp hy with q | q
  ·exact c x hx y (by rw[q];exact List.mem_cons_self) z
  ·rcases List.mem_cons.mp q with q | q
   ·exact h1 (by rw[← q,← z];exact hx)
   ·exact c x hx y (List.mem_cons_of_mem _ q) z
def Tame (ns:List Int):Prop:=∀ n∈ns,-1000000000001 < n∧n < 1000000000001
def kC (bs:List Int) (z:Str) (ns:List Int):Prop:=∃ (c:Int) (R:Rl),z=R.word∧Box c (.lst (bs.map .int))∧c≤700000∧2≤ns.length∧ns.length≤64∧Tame ns
def kR (bs bs':List Int):Prop:=∀ c,Box c (.lst (bs.map .int))→Box (c + 1000) (.lst (bs'.map .int))
theorem C9 (T:Txt K mg a):aY P w K mg base CX0 6 a.dP a.du ["_law_box_here","_law_word","_law_row_here"] (EJ K 3 (kpE (fun ns=>.ln (il ns)) kC kR)):=by
 refine IV T.iz aJ (hbody:=fun cdv A outer s H E hr=>⟨_,_,(mS (bI (i:=3) aJ.nd rfl (Or.inl rfl) (C1 T.mk_Plan (oh T) (hr.mono (by decide)) (by rfl) T.Dj T.p7 (ag af (ag af (ag (p3v 1) (ag iC aA))))))
   (mS (bI (i:=4) aJ.nd rfl (Or.inl rfl) (ck (ag (ar (by rfl) (jz T) (hr.mono (by decide)) (by rfl) T.lB T.jn.kp T.lD (aa (P3.opd (p3v 1)) ae)) (ag (eI (by rfl) (P3.opd (p3v 3)) T.lC T.m_ (mZ T) (hr.mono (by decide)) T.pA) (ag (eI (by rfl) (P3.opd (p3v 3)) T.lC T.m_ (mZ T) (hr.mono (by decide)) T.pA) (ag (ar (by rfl) (jz T) (hr.mono (by decide)) (by rfl) T.lB T.jn.kp T.lD (aa (P3.opd (p3v 1)) ae)) aA))))))
   (mS (bI (i:=5) aJ.nd rfl (Or.inl rfl) (ck aA))
   (mS (ju PassesOwn.never rfl (dE (by rfl) T.z_range (ag af aA)) (cM (i:=6) aJ.nd rfl (Or.inr rfl))
   (ao (bI (i:=7) aJ.nd rfl (Or.inl rfl) (mU (by rfl) (bv 2) (dg (P3.opd (ar (by rfl) (aI T) (hr.mono (by decide)) (by rfl) T.aN T.aK.kp T.aO (aa (bv 0) (aa (P3.opd (da (P3.opd (aB (dn (by rfl)) (by rfl) T.z_len (by decide +kernel) (aa (bv 2) ae))) (P3.opd af))) ae))))) gS))
   (ao (dW (i:=7) aJ.nd rfl rfl rfl (gM (by rfl) (p3v 7)) fF (fun _ _ _ _ _=>(cM (i:=0) fF.nd rfl (Or.inl rfl))) (fun _ _ _ _ _=>(br (bv 0) (P3.opd (fI (bv 2) (P3.opd (ar (by rfl) (aI T) (hr.mono (by decide)) (by rfl) T.aN T.aK.kp T.aO (aa (bv 1) (aa (P3.opd af) ae)))))))))
   (ao (bI (i:=8) aJ.nd rfl (Or.inl rfl) (cu (by rfl) (bv 4) (P3.opd (ar (by rfl) (aI T) (hr.mono (by decide)) (by rfl) T.aN T.aK.kp T.aO (aa (bv 0) (aa (P3.opd af) ae)))) (fun _ _=>rfl)))
   (ao (Cq (i:=9) (j:=10) (by rfl) (P3.or (av (by rfl) (bv 8) T.cN T.dY (aD T) (hr.mono (by decide)) T.aH (aa (P3.opd (p3v 7)) ae)) (P3.or (av (by rfl) (bv 8) T.bA T.dh (aD T) (hr.mono (by decide)) T.aH (aa (P3.opd (p3v 7)) ae)) (P3.or (av (by rfl) (bv 8) T.cq T.cT (aD T) (hr.mono (by decide)) T.aH (aa (P3.opd (p3v 7)) ae)) (av (by rfl) (bv 8) T.bu T.cS (aD T) (hr.mono (by decide)) T.aH (aa (P3.opd (p3v 7)) ae))))) (aS (bc (i:=9) aJ.nd rfl (Or.inl rfl)) (aS (bc (i:=10) aJ.nd rfl (Or.inl rfl)) dq)) rfl)
   (ao (bI (i:=11) aJ.nd rfl (Or.inl rfl) (P3.or (av (by rfl) (bv 8) T.cN T.jA (bH T) (hr.mono (by decide)) T.bV (aa (P3.opd (pS 9)) (aa (P3.opd (pS 10)) ae))) (P3.or (av (by rfl) (bv 8) T.bA T.gU (bH T) (hr.mono (by decide)) T.bV (aa (P3.opd (pS 9)) (aa (P3.opd (pS 10)) ae))) (P3.or (av (by rfl) (bv 8) T.cq T.gw (bH T) (hr.mono (by decide)) T.bV (aa (P3.opd (pS 9)) (aa (P3.opd (pS 10)) ae))) (av (by rfl) (bv 8) T.bu T.gv (bH T) (hr.mono (by decide)) T.bV (aa (P3.opd (pS 9)) (aa (P3.opd (pS 10)) ae)))))))
   (ao (ju PassesOwn.never rfl (FW (by rfl) (n_ (ag (p3v 9) (ag (p3v 10) (ag (IU 11) aA))))) (cM (i:=12) aJ.nd rfl (Or.inl rfl))
   (aq (lp (lz 5 (by rfl) (bv 5) (n_ (ag (p3v 12) (ag (Hb (bZ (fV (by rfl)) (by rfl) T.z_list (by decide +kernel) (aa (P3.opd (pS 12)) ae))) aA)))))))
   (aq (cJ (b9 (q8 (by rfl) hr) (P3.opd (aB (oO (by rfl) hr) (by rfl) T.z_repr (by decide +kernel) (aa (P3.opd (pS 11)) ae))) (P3.opd (aB (oO (by rfl) hr) (by rfl) T.z_repr (by decide +kernel) (aa (bv 7) ae))) (bW _)) (aq (au gj)) bF)))))))))
   (EW (by rfl) (cu (by rfl) (P3.opd (cu (by rfl) (bv 5) (P3.opd (ar (by rfl) (aI T) (hr.mono (by decide)) (by rfl) T.aN T.aK.kp T.aO (aa (bv 0) (aa (P3.opd (aB (dn (by rfl)) (by rfl) T.z_len (by decide +kernel) (aa (bv 5) ae))) ae)))) (fun _ _=>rfl))) (P3.opd af) (fun _ _=>rfl))
   (ao (cJ (b9 (q8 (by rfl) hr) (P3.opd (P3.or (av (by rfl) (P3.opd (cu (by rfl) (bv 4) (P3.opd af) (fun _ _=>rfl))) T.cN T.dY (aD T) (hr.mono (by decide)) T.aH (aa (P3.opd (ck (ag af (ag af aA)))) ae)) (P3.or (av (by rfl) (P3.opd (cu (by rfl) (bv 4) (P3.opd af) (fun _ _=>rfl))) T.bA T.dh (aD T) (hr.mono (by decide)) T.aH (aa (P3.opd (ck (ag af (ag af aA)))) ae)) (P3.or (av (by rfl) (P3.opd (cu (by rfl) (bv 4) (P3.opd af) (fun _ _=>rfl))) T.cq T.cT (aD T) (hr.mono (by decide)) T.aH (aa (P3.opd (ck (ag af (ag af aA)))) ae)) (av (by rfl) (P3.opd (cu (by rfl) (bv 4) (P3.opd af) (fun _ _=>rfl))) T.bu T.cS (aD T) (hr.mono (by decide)) T.aH (aa (P3.opd (ck (ag af (ag af aA)))) ae)))))) (P3.opd (P3.or (av (by rfl) (P3.opd (cu (by rfl) (bv 4) (P3.opd af) (fun _ _=>rfl))) T.cN T.dY (aD T) (hr.mono (by decide)) T.aH (aa (P3.opd (ck (ag af (ag af aA)))) ae)) (P3.or (av (by rfl) (P3.opd (cu (by rfl) (bv 4) (P3.opd af) (fun _ _=>rfl))) T.bA T.dh (aD T) (hr.mono (by decide)) T.aH (aa (P3.opd (ck (ag af (ag af aA)))) ae)) (P3.or (av (by rfl) (P3.opd (cu (by rfl) (bv 4) (P3.opd af) (fun _ _=>rfl))) T.cq T.cT (aD T) (hr.mono (by decide)) T.aH (aa (P3.opd (ck (ag af (ag af aA)))) ae)) (av (by rfl) (P3.opd (cu (by rfl) (bv 4) (P3.opd af) (fun _ _=>rfl))) T.bu T.cS (aD T) (hr.mono (by decide)) T.aH (aa (P3.opd (ck (ag af (ag af aA)))) ae)))))) (bW _)) (aq (au gj)) bF)
   (aq (au (fJ sQ (P3.opd (aB (dn (by rfl)) (by rfl) T.z_len (by decide +kernel) (aa (P3.opd (vy rfl (gM (by rfl) (p3v 5)) dM (fun _ _ _ _ _=>(gy (is:=[0,1]) (by rfl) (aS (bc (i:=0) dM.nd rfl (Or.inl rfl)) (aS (bc (i:=1) dM.nd rfl (Or.inl rfl)) dq)) rfl)) (fun _ _ _ _ _=>(b9 (q8 (by rfl) hr) (P3.opd (pS 0)) (P3.opd (pS 1)) (bW _))) (fun _ _ _ _ _=>af))) ae))) (P3.opd af) (bW _)))))))))),fun Γa Q h hl=>?_⟩)
 obtain⟨bs,z,ns,rfl,⟨c0,R,rfl,hb0,hc0,h1,h2,ht⟩,q⟩:=h
 obtain⟨c,hb,hc,q⟩:∃ c,Box c (.lst (bs.map .int))∧c≤700000∧∀ d',Box (c + 1000) d'→Q (.fz (.bl true)) [some (.ln d'),some (.fz (.str R.word)),some (.ln (il ns))]:=by
  obtain⟨x,m,k,e,a1,a2,a3,a4,a5⟩:=hb0
  refine⟨k,⟨x,m,k,e,a1,a2,a3,a4,Int.le_refl _⟩,by omega,fun d' hd=>?_⟩
  obtain⟨x',m',k',rfl,b1,b2,b3,b4,b5⟩:=hd
  refine q [x',m',k'] fun c' hc'=>⟨x',m',k',rfl,b1,b2,b3,b4,?_⟩
  obtain⟨x2,m2,k2,e2,_,_,_,_,c5⟩:=hc'
  have:k2=k:=by
   rw[e] at e2
   injection e2 with e2
   injection e2 with _ e2
   injection e2 with _ e2
   injection e2 with e2 _
   injection e2 with e2
   exact e2.symm
  omega
 clear hb0
 walk_at "z1"
 refine⟨R,1,2,[.r],by rw[show Str.ofString "r"=wy [.r] by decide +kernel],⟨by decide,by decide,by decide,by decide,by decide⟩,⟨⟨fun _=>by decide,fun z=>absurd rfl z⟩,trivial⟩,by decide,?_⟩
 walk_at "z1"
 refine⟨R,rfl,?_⟩
 walk_at "z1"
 refine⟨by decide +kernel,R,1,2,[.r],rfl,by decide,?_⟩
 walk_at "z1"
 refine⟨by decide +kernel,R,1,2,[.r],rfl,by decide,?_⟩
 walk_at "z1"
 refine⟨R,rfl,?_⟩
 walk_at "z1"
 refine⟨by rw[sizeLine_eq];omega,by rw[sizeLine_eq];omega,by decide,by decide,?_⟩
 refine iY (fun k Γ=>∃ (d':D) (es:List Ent) (s6 s7 s8 s9 s10 s11 s12:Option D),Box (c + 100 * k) d'∧es.length=3 * k∧(ads es).Nodup∧
  Γ=[some (.ln d'),some (.fz (.str R.word)),some (.ln (il ns)),some (.fz (plD a R 1 2 [.r])),some (.ow (.lst [R.ob a,R.ob a,R.ob a,R.ob a])),some (.ow (.lst (es.map lK))),fo s6,fo s7,fo s8,fo s9,fo s10,fo s11,fo s12]) ⟨_,[],none,none,none,none,none,none,none,hb.up (by omega),rfl,List.nodup_nil,rfl⟩ ?_ ?_
 ·rintro k d Γ hd ⟨d1,es,s6,s7,s8,s9,s10,s11,s12,b1,el,nd,rfl⟩
  obtain⟨lt,rfl⟩:=gL hd
  have lt:k < 6:=lt
  walk_at "z1"
  rw[List.length_map]
  refine⟨_,_,_,rfl,b1,by omega,by omega,by omega,fun r1 d2 l1 u1 b2=>?_⟩
  walk_at "z1"
  obtain⟨r,rfl⟩:∃ r:Nat,r1=(r:Int):=⟨r1.toNat,by rw[Int.toNat_of_nonneg l1]⟩
  rw[vX (by omega)]
  walk_at "z1"
  refine⟨small (by rw[List.length_map,List.length_drop];omega),cv (fun j ys Γc=>∃ ms:List Int,ys=ms.map D.int∧ms.length=j∧(∀ n∈ms,-1000000000100 < n∧n < 1000000000100)∧∃ s d',Box (c + 100 * k + 1 + j) d'∧Γc=[fo s,some (.ln d'),some (.fz (.int k))]) ⟨[],rfl,rfl,(fun _ h=>nomatch h),none,_,b2.up (by omega),rfl⟩ ?_ ?_⟩
  ·rintro j d ys Γc hd2 hj ⟨ms,rfl,hl2,hm,s,d3,b3,rfl⟩
   obtain⟨n,hn,rfl⟩:=yo hd2
   have nt:=ht n (List.mem_of_mem_drop (List.mem_of_getElem? hn))
   have lj:=ox hn
   rw[List.length_drop] at lj
   walk_at "z1"
   refine⟨_,_,9,rfl,b3,by omega,by decide,by decide,fun r2 d4 l2 u2 b4=>?_⟩
   walk_at "z1"
   have e1:0≤(k:Int) * r2:=Int.mul_nonneg (by omega) l2
   have e2:(k:Int) * r2≤6 * 9:=Int.mul_le_mul (by omega) (by omega) l2 (by decide)
   refine⟨.inl ⟨by omega,by omega⟩,ms++[n + k * r2],by rw[List.map_append];rfl,by simp [hl2],fun x hx=>?_,some _,_,b4.up (by omega),rfl⟩
   rcases List.mem_append.mp hx with hx | hx
   ·exact hm x hx
   ·have:x=n + k * r2:=by simpa using hx
    omega
  ·rintro ys Γc hj ⟨ms,rfl,hl2,hm,s,d3,b3,rfl⟩
   have ml:ms.length=ns.length - r:=by rw[hl2,List.length_map,List.length_drop]
   have b3:Box (c + 100 * k + 70) d3:=b3.up (by rw[List.length_map,List.length_drop];omega)
   have bm:=HY (by decide) hm
   have fm:Fig ms:=jS bm (by decide)
   obtain⟨fS,fD⟩:=xJ (R:=R) bm
   have eS:=R.iO ms
   have eD:=R.qg ms
   walk_at "z1"
   refine⟨_,_,4,rfl,b3,by omega,by decide,by decide,fun r3 d4 l3 u3 b4=>?_⟩
   walk_at "z1"
   refine pick (p:=fun v=>v=R.ob a) l3 u3 (by intro v hv;simp only[List.mem_cons,List.not_mem_nil,or_false,or_self] at hv;exact hv) ?_
   rintro _ rfl
   walk_at "z1"
   refine iD R ?_
   rw[tL]
   walk_at "z1"
   refine⟨R,ms,rfl,fm,by omega,by omega,?_⟩
   walk_at "z1"
   intro p p' hpq hp hp'
   have np:=m8 (i:=5) hp rfl
   have np':=m8 (i:=5) hp' rfl
   refine iD R ?_
   rw[tL]
   walk_at "z1"
   refine⟨R,_,_,rfl,fS,fD,by omega,by omega,by omega,by omega,?_⟩
   rw[sF]
   walk_at "z1"
   intro g hg
   have ng:=m8 (i:=5) hg rfl
   have g1:=lA (i:=9) hg rfl
   have g2:=lA (i:=10) hg rfl
   refine⟨by rw[sizeLine_eq];omega,?_⟩
   refine iY (fun j Γ=>j≤3∧∃ (es':List Ent) (s:Option D),es'.length=3 * k + j∧(ads es'++([(p,R.sums ms),(p',R.dif ms),(g,ms)].drop j).map (·.1)).Nodup∧
    Γ=[some (Sl.ln d4),some (Sl.fz (D.str R.word)),some (Sl.ln (il ns)),some (Sl.fz (plD a R 1 2 [Lt.r])),
     some (Sl.ow (D.lst [Rl.ob a R,Rl.ob a R,Rl.ob a R,Rl.ob a R])),some (Sl.ow (D.lst (List.map lK es'))),
     some (Sl.fz (D.int ↑k)),some (Sl.fz (D.lst (List.map D.int ms))),some (Sl.fz (Rl.ob a R)),
     some (Sl.fz (D.cel p (List.map D.int (R.sums ms)))),some (Sl.fz (D.cel p' (List.map D.int (R.dif ms)))),
     some (Sl.fz (D.cel g (List.map D.int ms))),fo s]) ⟨by decide,es,s12,el,?_,rfl⟩ ?_ ?_
   ·show (ads es++[p,p',g]).Nodup
    rw[List.nodup_append]
    refine⟨nd,?_,?_⟩
    ·simp only[List.nodup_cons,List.mem_cons,List.not_mem_nil,or_false,not_or,not_false_eq_true,List.nodup_nil,and_true]
     exact⟨⟨hpq,fun z=>g1 z.symm⟩,fun z=>g2 z.symm⟩
    ·intro x hx y hy z
     subst z
     simp only[List.mem_cons,List.not_mem_nil,or_false] at hy
     rcases hy with rfl | rfl | rfl
     ·exact np hx
     ·exact np' hx
     ·exact ng hx
   ·rintro j d Γ hd3 ⟨hj3,es',s,el',nd',rfl⟩
    have hd3:([(p,R.sums ms),(p',R.dif ms),(g,ms)].map fun x=>D.cel x.1 (x.2.map .int))[j]?=some d:=hd3
    rw[List.getElem?_map] at hd3
    cases hT:[(p,R.sums ms),(p',R.dif ms),(g,ms)][j]? with
    | none=>rw[hT] at hd3;cases hd3
    | some tS=>
     obtain⟨t,S⟩:=tS
     rw[hT] at hd3
     cases hd3
     have j3:j < 3:=ox hT
     have dr:[(p,R.sums ms),(p',R.dif ms),(g,ms)].drop j=(t,S)::[(p,R.sums ms),(p',R.dif ms),(g,ms)].drop (j + 1):=by
      rw[List.drop_eq_getElem_cons j3]
      have:[(p,R.sums ms),(p',R.dif ms),(g,ms)][j]=(t,S):=by
       have:=(List.getElem?_eq_some_iff.mp hT).2
       exact this
      rw[this]
     rw[dr,List.map_cons] at nd'
     walk_at "z1"
     intro h hh
     have n1:=m8 (i:=5) hh rfl
     have n2:=lA (i:=9) hh rfl
     have n3:=lA (i:=10) hh rfl
     have n4:=lA (i:=11) hh rfl
     have n5:=lA (i:=12) hh rfl
     refine⟨by rw[sizeLine_eq];omega,by rw[List.length_map,sizeLine_eq];omega,j3,es'++[((t,h,S):Ent)],some _,by rw[List.length_append,el'];simp;omega,?_,by rw[List.map_append];rfl⟩
     rw[yL]
     have m:∀ x∈([(p,R.sums ms),(p',R.dif ms),(g,ms)].drop (j + 1)).map (·.1),x=p∨x=p'∨x=g:=fun x hx=>by
      obtain⟨y,hy,rfl⟩:=List.mem_map.mp hx
      have:=List.mem_of_mem_drop hy
      simp only[List.mem_cons,List.not_mem_nil,or_false] at this
      rcases this with rfl | rfl | rfl
      ·exact .inl rfl
      ·exact .inr (.inl rfl)
      ·exact .inr (.inr rfl)
     exact xg nd' n1 n5 fun hx=>by rcases m h hx with z | z | z <;> contradiction
   ·rintro Γ ⟨hj3,es',s,el',nd',rfl⟩
    walk_at "z1"
    have sm:Shn ms:=nF fm (by omega)
    have nd2:(ads es'++[]).Nodup:=nd'
    rw[List.append_nil] at nd2
    have el2:es'.length=3 * k + 3:=el'
    exact⟨tI sm,tI sm,_,es',some _,some _,some _,some _,some _,some _,s,b4.up (by omega),by omega,nd2,rfl⟩
 ·rintro Γ ⟨d1,es,s6,s7,s8,s9,s10,s11,s12,b1,el,nd,rfl⟩
  have el:es.length=18:=el
  walk_at "z1"
  rw[List.length_map,el]
  refine⟨_,_,18,rfl,b1,by omega,by decide,by decide,fun r1 d2 l1 u1 b2=>?_⟩
  walk_at "z1"
  refine pick (p:=fun v=>∃ e∈es,v=lK e) l1 (by rw[List.length_map,el];exact u1) (fun v hv=>by obtain⟨e,he,rfl⟩:=List.mem_map.mp hv;exact⟨e,he,rfl⟩) ?_
  rintro _ ⟨e,he,rfl⟩
  rw[show lK e=.tup [.cel e.1 (e.2.2.map .int),.cel e.2.1 (e.2.2.map .int)] from rfl]
  obtain⟨x2,m2,k2,rfl,a1,a2,a3,a4,a5⟩:=b2
  have pg:xS [some (Sl.ln (.lst [.int x2,.int m2,.int k2])),some (Sl.fz (D.str R.word)),some (Sl.ln (il ns)),some (Sl.fz (plD a R 1 2 [Lt.r])),
    some (Sl.ow (D.lst [Rl.ob a R,Rl.ob a R,Rl.ob a R,Rl.ob a R])),some (Sl.ow (D.lst (List.map lK es))),fo s6,fo s7,fo s8,fo s9,fo s10,fo s11,fo s12]:=
   ⟨mT [x2,m2,k2],trivial,mT ns,trivial,by show iU _=true;simp only[iU,pin,Bool.and_self],vt es,lW,lW,lW,lW,lW,lW,lW,trivial⟩
  have cg:p5 e.1 [some (Sl.ln (.lst [.int x2,.int m2,.int k2])),some (Sl.fz (D.str R.word)),some (Sl.ln (il ns)),some (Sl.fz (plD a R 1 2 [Lt.r])),
    some (Sl.ow (D.lst [Rl.ob a R,Rl.ob a R,Rl.ob a R,Rl.ob a R])),some (Sl.ow (D.lst (List.map lK es))),fo s6,fo s7,fo s8,fo s9,fo s10,fo s11,fo s12] =
    [some (Sl.ln (.lst [.int x2,.int m2,.int k2])),none,some (Sl.ln (il ns)),none,some (Sl.ow (D.lst [Rl.ob a R,Rl.ob a R,Rl.ob a R,Rl.ob a R])),some (Sl.ow (D.lst (List.map (BD e.1) es))),none,none,none,none,none,none,none]:=by
   simp only[p5,Gg]
   unfold qW
   simp only[v3,qV,h_,clr]
  walk_at "z1"
  refine⟨pg,?_⟩
  rw[cg]
  refine iD R ?_
  rw[tL]
  walk_at "z1"
  have f42:Fig [4,2]:=fun n hn=>by
   simp only[List.mem_cons,List.not_mem_nil,or_false] at hn
   rcases hn with rfl | rfl <;> decide
  refine⟨by rw[sizeLine_eq];omega,R,[4,2],rfl,f42,by decide,by decide,?_⟩
  walk_at "z1"
  refine iD R ?_
  rw[tL]
  walk_at "z1"
  refine⟨by rw[sizeLine_eq];omega,R,[4,2],rfl,f42,by decide,by decide,?_⟩
  walk_at "z1"
  refine⟨true,Bx,?_⟩
  walk_at "z1"
  refine sO (fun j ys Γc=>j≤18∧ys.length≤((es.take j).filter (fun x=>decide (x.1=e.1))).length∧∃ s s',Γc=[fo s,fo s']) ⟨by decide,by simp,none,none,rfl⟩ ?_ ?_
  ·rintro j d ys Γc hd3 ⟨hj,hy,s,s',rfl⟩
   rw[List.getElem?_map] at hd3
   cases hT:es[j]? with
   | none=>rw[hT] at hd3;cases hd3
   | some x=>
    rw[hT] at hd3
    cases hd3
    have jl:=ox hT
    have hx:=List.mem_of_getElem? hT
    have hne:=yp nd ⟨e,he,rfl⟩ x hx
    have tk:=take_snoc hT
    unfold BD
    rw[if_neg hne]
    walk_at "z1"
    have fl:(es.take (j + 1)).filter (fun x=>decide (x.1=e.1))=(es.take j).filter (fun x=>decide (x.1=e.1))++[x].filter (fun x=>decide (x.1=e.1)):=by rw[tk,List.filter_append]
    have cj:((es.take j).filter (fun x=>decide (x.1=e.1))).length≤j:=Nat.le_trans (List.length_filter_le _ _) (by rw[List.length_take];omega)
    by_cases z:x.1=e.1
    ·have f1:[x].filter (fun x=>decide (x.1=e.1))=[x]:=by rw[List.filter_cons,if_pos (by simpa using z)];rfl
     rw[f1] at fl
     have cn:((es.take (j + 1)).filter (fun x=>decide (x.1=e.1))).length=((es.take j).filter (fun x=>decide (x.1=e.1))).length + 1:=by rw[fl,List.length_append];rfl
     cases hb2:decide ((if x.1=e.1 then [] else x.2.2)=x.2.2)
     ·exact⟨by rw[sizeLine_eq];omega,by omega,by rw[List.length_append,cn];simp;exact hy,some _,some _,rfl⟩
     ·exact⟨by omega,by rw[cn];omega,some _,some _,rfl⟩
    ·rw[if_neg z,show decide (x.2.2=x.2.2)=true by simp]
     exact⟨by omega,by rw[fl,List.length_append];omega,some _,some _,rfl⟩
  ·rintro ys Γc ⟨hj,hy,s,s',rfl⟩
   have f1:=few (p:=e.1) nd
   rw[List.length_map,List.take_length] at hy
   walk_at "z1"
   have r6:(rng 0 (Int.toNat 6)).length=6:=rfl
   rw[r6] at a5
   rw[show qP (ys.length:Int) 2=true by simp only[qP,decide_eq_true_eq];omega]
   exact⟨by rw[sizeLine_eq];omega,q _ ⟨x2,m2,k2,rfl,a1,a2,a3,a4,by omega⟩⟩
theorem l_ (T:Txt K mg a):aY P w K mg base CX0 6 a.dP a.du ["_law_box_here","_law_word","_law_row_here"] (sp3 K 3 (kpE (fun ns=>.fz (il ns)) kC kR)):=Hk (C9 T)
def w4:List D:=[.str "sum",.str "half",.str "guess",.str "lean"]
theorem EB {k:Nat} {d:D} (h:w4[k]?=some d):∃ R:Rl,d=.str R.word:=by
 match k,h with
 | 0,h=>cases h;exact⟨.sum,rfl⟩
 | 1,h=>cases h;exact⟨.half,rfl⟩
 | 2,h=>cases h;exact⟨.guess,rfl⟩
 | 3,h=>cases h;exact⟨.lean,rfl⟩
 | n + 4,h=>simp [w4] at h
theorem Ae {n k:Nat} {i:Int} {d:D} (h:(rng i n)[k]?=some d):k < n∧d=.int (i + k):=by
 unfold rng at h
 exact qb h
theorem Gd {x y:Int} {r:List Int}:cut ((x::y::r).map D.int) none (some 1)=[x].map D.int:=by
 unfold cut
 have e1:HT.sIx ((x::y::r).map D.int).length 0 none=0:=rfl
 have e2:HT.sIx ((x::y::r).map D.int).length ((x::y::r).map D.int).length (some 1)=1:=by
  simp only[HT.sIx,List.length_map,List.length_cons]
  split <;> omega
 rw[e1,e2];rfl
theorem Gb {x y:Int} {r:List Int}:cut ((x::y::r).map D.int) (some 1) (some 2)=[y].map D.int:=by
 unfold cut
 have e1:HT.sIx ((x::y::r).map D.int).length 0 (some 1)=1:=by
  simp only[HT.sIx,List.length_map,List.length_cons]
  split <;> omega
 have e2:HT.sIx ((x::y::r).map D.int).length ((x::y::r).map D.int).length (some 2)=2:=by
  simp only[HT.sIx,List.length_map,List.length_cons]
  split <;> omega
 rw[e1,e2];rfl
theorem C8 (T:Txt K mg a):aY P w K mg base CX0 7 a.yz a.uz ["_law_script"] (sp3 K 1 (D6 63)):=by
 refine ok3 T.Ik jr (hbody:=fun cdv A outer s H E hr=>⟨_,_,(ao (ju PassesOwn.never rfl (dE (by rfl) T.z_range (ag (aB (BW rfl) (by rfl) T.z_max (by decide +kernel) (aa (P3.opd af) (aa (P3.opd (aB (Ew rfl) (by rfl) T.z_min (by decide +kernel) (aa (P3.opd (aB (dn (by rfl)) (by rfl) T.z_len (by decide +kernel) (aa (bv 0) ae))) (aa (P3.opd af) ae)))) ae))) aA)) (cM (i:=1) jr.nd rfl (Or.inl rfl))
   (ao (bI (i:=2) jr.nd rfl (Or.inl rfl) (ar (by rfl) (vD T) (hr.mono (by decide)) (by rfl) T.xp T.rD.kp T.xR (aa (P3.opd (ar (by rfl) (uc T) (hr.mono (by decide)) (by rfl) T.vM T.pM.kp T.wq (aa (P3.opd (p3v 0)) (aa (P3.opd (p3v 1)) ae)))) ae)))
   (ao (bI (i:=3) jr.nd rfl (Or.inl rfl) (ar (by rfl) (vC T) (hr.mono (by decide)) (by rfl) T.xo T.rC.kp T.xQ (aa (bv 2) (aa (P3.opd af) ae))))
   (ao (x5 (is:=[4,5]) (by rfl) (ar (by rfl) (mX T) (hr.mono (by decide)) (by rfl) T.oq T.jo.kp T.oR (aa (bv 2) ae)) (aS (bc (i:=4) jr.nd rfl (Or.inl rfl)) (aS (bc (i:=5) jr.nd rfl (Or.inl rfl)) dq)) rfl)
   (ao (vi (i:=6) jr.nd rfl rfl rfl (gM (by rfl) (p3v 3)) sS (fun _ _ _ _ _=>(cM (i:=0) sS.nd rfl (Or.inl rfl))) (fun _ _ _ _ _=>(eu (bv 0) (P3.opd af))))
   (aq (ju PassesOwn.never rfl (gM (by rfl) (ck (ag iC (ag iC (ag iC (ag iC aA)))))) (cM (i:=7) jr.nd rfl (Or.inl rfl))
   (ao (bI (i:=8) jr.nd rfl (Or.inl rfl) (ar (by rfl) (jz T) (hr.mono (by decide)) (by rfl) T.lB T.jn.kp T.lD (aa (P3.opd (p3v 7)) ae)))
   (ao (cJ (P3W.pt (n9 (cf (cc (ar (by rfl) (gk T) (hr.mono (by decide)) (by rfl) T.gG T.eF.kp T.gJ (aa (P3.opd (p3v 8)) (aa (P3.opd (p3v 4)) (aa (P3.opd (p3v 5)) ae)))))) (lr (cf (cc (ar (by rfl) (iq T) (hr.mono (by decide)) (by rfl) T.iX T.fY.kp T.jg (aa (P3.opd (p3v 8)) (aa (P3.opd (p3v 3)) ae)))))))) (aq (au gj)) bF)
   (ao (cJ (cf (cc (ar (by rfl) (l_ T) (hr.mono (by decide)) (by rfl) T.nB T.iz.kp T.nR (aa (bv 2) (aa (P3.opd (p3v 7)) (aa (P3.opd (p3v 6)) ae)))))) (aq (au gj)) bF)
   (aq (cJ (P3W.pt (n9 (cf (cc (ar (by rfl) (iq T) (hr.mono (by decide)) (by rfl) T.iX T.fY.kp T.jg (aa (P3.opd (p3v 8)) (aa (P3.opd (p3v 6)) ae))))) (lr (cf (cc (ar (by rfl) (gk T) (hr.mono (by decide)) (by rfl) T.gG T.eF.kp T.gJ (aa (P3.opd (p3v 8)) (aa (P3.opd (mU (by rfl) (bv 6) gS (dg (P3.opd af)))) (aa (P3.opd (mU (by rfl) (bv 6) (dg (P3.opd af)) (dg (P3.opd af)))) ae))))))))) (aq (au gj)) bF))))))))))))
   (aq (au gj))),fun Γa Q h hl=>?_⟩)
 obtain⟨ns,rfl,hn,q⟩:=h
 walk_at "z1"
 have m1:fmax 2 (fmin (ns.length:Int) 10)≤10:=by unfold fmax fmin;split <;> split <;> omega
 have m2:2≤fmax 2 (fmin (ns.length:Int) 10):=by unfold fmax fmin;split <;> split <;> omega
 refine⟨by omega,by omega,iY (fun k Γ=>∃ s1 s2 s3 s4 s5 s6 s7 s8,Γ=[some (.fz (.scr ns)),fo s1,fw s2,fo s3,fo s4,fo s5,fo s6,fo s7,fo s8]) ⟨none,none,none,none,none,none,none,none,rfl⟩ ?_ ?_⟩
 ·rintro k d Γ hd ⟨s1,s2,s3,s4,s5,s6,s7,s8,rfl⟩
  obtain⟨lk,rfl⟩:=Ae hd
  walk_at "z1"
  refine⟨ns,_,rfl,by omega,fun r0=>?_⟩
  walk_at "z1"
  refine⟨_,rfl,fun d0 b0=>?_⟩
  walk_at "z1"
  refine⟨_,_,rfl,b0,by decide,fun row d1 r1 r2 fr b1=>?_⟩
  walk_at "z1"
  refine⟨_,_,rfl,b1,by decide,fun S Df d2 e1 e2 e3 e4 fS fD b2=>?_⟩
  walk_at "z1"
  refine⟨small (by rw[List.length_map];omega),cv (fun j ys Γc=>ys=(List.range j).map (fun i=>D.int (row.getD i 0 / 1000))∧∃ s,Γc=[fo s]) ⟨rfl,none,rfl⟩ ?_ ?_⟩
  ·rintro j d ys Γc hd2 hj ⟨rfl,s,rfl⟩
   obtain⟨lt,rfl⟩:=ints_get hd2
   walk_at "z1"
   exact⟨⟨by decide,by decide⟩,snoc rfl,some _,rfl⟩
  ·rintro ys Γc hj ⟨rfl,s,rfl⟩
   rw[List.length_map,iS]
   obtain⟨sm,esm⟩:∃ sm,sm=List.map (fun i=>row.getD i 0 / 1000) (List.range row.length):=⟨_,rfl⟩
   have sl:sm.length=row.length:=by rw[esm];simp
   have tm:Tame sm:=fun n hn=>by
    rw[esm] at hn
    obtain⟨i,_,rfl⟩:=List.mem_map.mp hn
    have:=fg fr i
    omega
   have fm:Fig sm:=fun n hn=>by have:=tm n hn;omega
   rw[← esm]
   clear esm
   obtain⟨x,y,rest,rfl⟩:∃ x y rest,sm=x::y::rest:=by
    match sm,sl with
    | [],h=>simp at h;omega
    | [_],h=>simp at h;omega
    | x::y::rest,_=>exact⟨x,y,rest,rfl⟩
   walk_at "z1"
   refine⟨by rw[sizeLine_eq];omega,?_⟩
   refine iY (fun j Γ=>j≤4∧∃ s7 s8 d,Box (2000 + 1000 * j) d∧Γ=[some (.fz (.scr ns)),some (.fz (.int (0 + k))),some (.ow d),some (.fz (il row)),some (.fz (il S)),some (.fz (il Df)),some (.fz (il (x::y::rest))),fo s7,fo s8]) ⟨by decide,s7,s8,d2,b2.up (by decide),rfl⟩ ?_ ?_
   ·rintro j d Γ hd3 ⟨hj4,s7,s8,d3,b3,rfl⟩
    have lj:j < 4:=ox hd3
    obtain⟨R,rfl⟩:=EB hd3
    obtain⟨x3,m3,k3,rfl,a1,a2,a3,a4,a5⟩:=b3
    have b3:Box (2000 + 1000 * j) (.lst ([x3,m3,k3].map .int)):=⟨x3,m3,k3,rfl,a1,a2,a3,a4,a5⟩
    walk_at "z1"
    refine⟨R,rfl,?_⟩
    walk_at "z1"
    refine⟨R,S,Df,rfl,fS,fD,e1,e2,e3,e4,?_⟩
    walk_at "z1"
    refine⟨R,row,rfl,fr,r1,r2,?_⟩
    walk_at "z1"
    refine⟨[x3,m3,k3],R.word,x::y::rest,rfl,⟨_,R,rfl,b3,by omega,by omega,by omega,tm⟩,fun bs' hbs=>?_⟩
    walk_at "z1"
    refine⟨R,x::y::rest,rfl,fm,by omega,by omega,?_⟩
    walk_at "z1"
    have c1:cut (D.int x::D.int y::List.map D.int rest) none (some 1)=[D.int x]:=Gd
    have c2:cut (D.int x::D.int y::List.map D.int rest) (some 1) (some 2)=[D.int y]:=Gb
    rw[c1,c2]
    refine⟨R,[x],[y],rfl,fun n hn=>fm n (by simp only[List.mem_cons,List.not_mem_nil,or_false] at hn;rw[hn];exact List.mem_cons_self),fun n hn=>fm n (by simp only[List.mem_cons,List.not_mem_nil,or_false] at hn;rw[hn];exact List.mem_cons_of_mem _ List.mem_cons_self),Nat.le_refl _,Nat.le_refl _,by simp,by simp,?_⟩
    walk_at "z1"
    exact⟨lj,some _,some _,_,(hbs _ b3).up (by omega),rfl⟩
   ·rintro Γ ⟨hj4,s7,s8,d3,b3,rfl⟩
    walk_at "z1"
    exact⟨some _,some _,some _,some _,some _,some _,s7,s8,rfl⟩
 ·rintro Γ ⟨s1,s2,s3,s4,s5,s6,s7,s8,rfl⟩
  walk_at "z1"
  exact q _
theorem z2:2≤sizeLine:=by rw[sizeLine_eq];decide
def tE (K:PySem.W.Frag):Sp:=fun vs H Q _=>∃ (p:Addr) (ns:List Int),vs=[.ref p]∧SqL K H p (ns.map V.int)∧ns.length≤63∧∀ H',Q (.bl true) H'
theorem Fw (T:Txt K mg a):aY P w K mg base CX0 7 a.yz a.uz ["_law_script"] (tE K):=FE (C8 T)
end
theorem all_mk {l:PySem.W.OpenLaw} {w:World} {K:PySem.W.Frag} {h:Heap} {mg:Str→Option Value} {fa:Addr} (X:K.In h) (G:h.Ns mainGlobals mg) (hfa:mg "law"=some (.ref fa))
  {az:Addr}
  {aF:Addr}
  {ay:Addr}
  {b_:Addr}
  {bg:Addr}
  {bU:Addr} {od_ALONG_PILLARS:Option Addr} {nn_ALONG_PILLARS:Nat} {sl_ALONG_PILLARS:Array (Option Value)} {tk_ALONG_PILLARS_0:Tok} {tk_ALONG_PILLARS_1:Tok}
  {cQ:Addr} {od_ALONG_ROWS:Option Addr} {nn_ALONG_ROWS:Nat} {sl_ALONG_ROWS:Array (Option Value)} {tk_ALONG_ROWS_0:Tok} {tk_ALONG_ROWS_1:Tok}
  {f0:Addr} {od0 an0:Option Addr} {sl0:Array (Option Value)} {oc0 kV0 dc0 pm0 cd0 ct0:Value}
  {f1:Addr} {od1 an1:Option Addr} {sl1:Array (Option Value)} {oc1 kV1 dc1 pm1 cd1 ct1:Value}
  {f2:Addr} {od2 an2:Option Addr} {sl2:Array (Option Value)} {oc2 kV2 dc2 pm2 cd2 ct2:Value}
  {f3:Addr} {od3 an3:Option Addr} {sl3:Array (Option Value)} {oc3 kV3 dc3 pm3 cd3 ct3:Value}
  {f4:Addr} {od4 an4:Option Addr} {sl4:Array (Option Value)} {oc4 kV4 dc4 pm4 cd4 ct4:Value}
  {f5:Addr} {od5 an5:Option Addr} {sl5:Array (Option Value)} {oc5 kV5 dc5 pm5 cd5 ct5:Value}
  {f6:Addr} {od6 an6:Option Addr} {sl6:Array (Option Value)} {oc6 kV6 dc6 pm6 cd6 ct6:Value}
  {f7:Addr} {od7 an7:Option Addr} {sl7:Array (Option Value)} {oc7 kV7 dc7 pm7 cd7 ct7:Value}
  {f8:Addr} {od8 an8:Option Addr} {sl8:Array (Option Value)} {oc8 kV8 dc8 pm8 cd8 ct8:Value}
  {f9:Addr} {od9 an9:Option Addr} {sl9:Array (Option Value)} {oc9 kV9 dc9 pm9 cd9 ct9:Value}
  {f10:Addr} {od10 an10:Option Addr} {sl10:Array (Option Value)} {oc10 kV10 dc10 pm10 cd10 ct10:Value}
  {f11:Addr} {od11 an11:Option Addr} {sl11:Array (Option Value)} {oc11 kV11 dc11 pm11 cd11 ct11:Value}
  {f12:Addr} {od12 an12:Option Addr} {sl12:Array (Option Value)} {oc12 kV12 dc12 pm12 cd12 ct12:Value}
  {f13:Addr} {od13 an13:Option Addr} {sl13:Array (Option Value)} {oc13 kV13 dc13 pm13 cd13 ct13:Value}
  {f14:Addr} {od14 an14:Option Addr} {sl14:Array (Option Value)} {oc14 kV14 dc14 pm14 cd14 ct14:Value}
  {f15:Addr} {od15 an15:Option Addr} {sl15:Array (Option Value)} {oc15 kV15 dc15 pm15 cd15 ct15:Value}
  {f16:Addr} {od16 an16:Option Addr} {sl16:Array (Option Value)} {oc16 kV16 dc16 pm16 cd16 ct16:Value}
  {f17:Addr} {od17 an17:Option Addr} {sl17:Array (Option Value)} {oc17 kV17 dc17 pm17 cd17 ct17:Value}
  {f18:Addr} {od18 an18:Option Addr} {sl18:Array (Option Value)} {oc18 kV18 dc18 pm18 cd18 ct18:Value}
  {f19:Addr} {od19 an19:Option Addr} {sl19:Array (Option Value)} {oc19 kV19 dc19 pm19 cd19 ct19:Value}
  {f20:Addr} {od20 an20:Option Addr} {sl20:Array (Option Value)} {oc20 kV20 dc20 pm20 cd20 ct20:Value}
  {f21:Addr} {od21 an21:Option Addr} {sl21:Array (Option Value)} {oc21 kV21 dc21 pm21 cd21 ct21:Value}
  {f22:Addr} {od22 an22:Option Addr} {sl22:Array (Option Value)} {oc22 kV22 dc22 pm22 cd22 ct22:Value}
  {f23:Addr} {od23 an23:Option Addr} {sl23:Array (Option Value)} {oc23 kV23 dc23 pm23 cd23 ct23:Value}
  {f24:Addr} {od24 an24:Option Addr} {sl24:Array (Option Value)} {oc24 kV24 dc24 pm24 cd24 ct24:Value}
  {f25:Addr} {od25 an25:Option Addr} {sl25:Array (Option Value)} {oc25 kV25 dc25 pm25 cd25 ct25:Value}
  {f26:Addr} {od26 an26:Option Addr} {sl26:Array (Option Value)} {oc26 kV26 dc26 pm26 cd26 ct26:Value}
  {f27:Addr} {od27 an27:Option Addr} {sl27:Array (Option Value)} {oc27 kV27 dc27 pm27 cd27 ct27:Value}
  {f28:Addr} {od28 an28:Option Addr} {sl28:Array (Option Value)} {oc28 kV28 dc28 pm28 cd28 ct28:Value}
  {f29:Addr} {od29 an29:Option Addr} {sl29:Array (Option Value)} {oc29 kV29 dc29 pm29 cd29 ct29:Value}
  {f30:Addr} {od30 an30:Option Addr} {sl30:Array (Option Value)} {oc30 kV30 dc30 pm30 cd30 ct30:Value}
  {f31:Addr} {od31 an31:Option Addr} {sl31:Array (Option Value)} {oc31 kV31 dc31 pm31 cd31 ct31:Value}
  {f32:Addr} {od32 an32:Option Addr} {sl32:Array (Option Value)} {oc32 kV32 dc32 pm32 cd32 ct32:Value}
  {f33:Addr} {od33 an33:Option Addr} {sl33:Array (Option Value)} {oc33 kV33 dc33 pm33 cd33 ct33:Value}
  {f34:Addr} {od34 an34:Option Addr} {sl34:Array (Option Value)} {oc34 kV34 dc34 pm34 cd34 ct34:Value}
  {f35:Addr} {od35 an35:Option Addr} {sl35:Array (Option Value)} {oc35 kV35 dc35 pm35 cd35 ct35:Value}
  {f36:Addr} {od36 an36:Option Addr} {sl36:Array (Option Value)} {oc36 kV36 dc36 pm36 cd36 ct36:Value}
  {f37:Addr} {od37 an37:Option Addr} {sl37:Array (Option Value)} {oc37 kV37 dc37 pm37 cd37 ct37:Value}
  {f38:Addr} {od38 an38:Option Addr} {sl38:Array (Option Value)} {oc38 kV38 dc38 pm38 cd38 ct38:Value}
  {f39:Addr} {od39 an39:Option Addr} {sl39:Array (Option Value)} {oc39 kV39 dc39 pm39 cd39 ct39:Value}
  {f40:Addr} {od40 an40:Option Addr} {sl40:Array (Option Value)} {oc40 kV40 dc40 pm40 cd40 ct40:Value}
  {f41:Addr} {od41 an41:Option Addr} {sl41:Array (Option Value)} {oc41 kV41 dc41 pm41 cd41 ct41:Value}
  {f42:Addr} {od42 an42:Option Addr} {sl42:Array (Option Value)} {oc42 kV42 dc42 pm42 cd42 ct42:Value}
  {f43:Addr} {od43 an43:Option Addr} {sl43:Array (Option Value)} {oc43 kV43 dc43 pm43 cd43 ct43:Value}
  {f44:Addr} {od44 an44:Option Addr} {sl44:Array (Option Value)} {oc44 kV44 dc44 pm44 cd44 ct44:Value}
  {f45:Addr} {od45 an45:Option Addr} {sl45:Array (Option Value)} {oc45 kV45 dc45 pm45 cd45 ct45:Value}
  {f46:Addr} {od46 an46:Option Addr} {sl46:Array (Option Value)} {oc46 kV46 dc46 pm46 cd46 ct46:Value}
  {f47:Addr} {od47 an47:Option Addr} {sl47:Array (Option Value)} {oc47 kV47 dc47 pm47 cd47 ct47:Value}
  {f48:Addr} {od48 an48:Option Addr} {sl48:Array (Option Value)} {oc48 kV48 dc48 pm48 cd48 ct48:Value}
  {f49:Addr} {od49 an49:Option Addr} {sl49:Array (Option Value)} {oc49 kV49 dc49 pm49 cd49 ct49:Value}
  {f50:Addr} {od50 an50:Option Addr} {sl50:Array (Option Value)} {oc50 kV50 dc50 pm50 cd50 ct50:Value}
  {f51:Addr} {od51 an51:Option Addr} {sl51:Array (Option Value)} {oc51 kV51 dc51 pm51 cd51 ct51:Value}
  {f52:Addr} {od52 an52:Option Addr} {sl52:Array (Option Value)} {oc52 kV52 dc52 pm52 cd52 ct52:Value}
  {t_MOST_NUMBER:Tok}
  {t_MOST_PLACES:Tok}
  {t_MOST_SIDE:Tok}
  (aC_Guessed:PySem.W.nsIn K mainGlobals "Guessed"=some (some (.ref az)))
  (pg_Guessed:PySem.W.plainGet K az Str.empty=true)
  (hd_Guessed:PySem.W.hasDictIn K az=true)
  (po_Guessed:PySem.W.plainOver K az=true)
  (sa_Guessed:PySem.W.findIn K (.ref az) "__setattr__"=some (some (.builtin "object.__setattr__")))
  (mk_Guessed:PySem.W.makesIn K az=true)
  (kc_Guessed:PySem.W.keepIn K (.ref az)=true)
  (in_Guessed:PySem.W.findIn K (.ref az) "__init__"=some (some (.builtin "object.__init__")))
  (aC_Halves:PySem.W.nsIn K mainGlobals "Halves"=some (some (.ref aF)))
  (pg_Halves:PySem.W.plainGet K aF Str.empty=true)
  (hd_Halves:PySem.W.hasDictIn K aF=true)
  (po_Halves:PySem.W.plainOver K aF=true)
  (sa_Halves:PySem.W.findIn K (.ref aF) "__setattr__"=some (some (.builtin "object.__setattr__")))
  (mk_Halves:PySem.W.makesIn K aF=true)
  (kc_Halves:PySem.W.keepIn K (.ref aF)=true)
  (in_Halves:PySem.W.findIn K (.ref aF) "__init__"=some (some (.builtin "object.__init__")))
  (aC_Leaning:PySem.W.nsIn K mainGlobals "Leaning"=some (some (.ref ay)))
  (pg_Leaning:PySem.W.plainGet K ay Str.empty=true)
  (hd_Leaning:PySem.W.hasDictIn K ay=true)
  (po_Leaning:PySem.W.plainOver K ay=true)
  (sa_Leaning:PySem.W.findIn K (.ref ay) "__setattr__"=some (some (.builtin "object.__setattr__")))
  (mk_Leaning:PySem.W.makesIn K ay=true)
  (kc_Leaning:PySem.W.keepIn K (.ref ay)=true)
  (in_Leaning:PySem.W.findIn K (.ref ay) "__init__"=some (some (.builtin "object.__init__")))
  (aC_Plan:PySem.W.nsIn K mainGlobals "Plan"=some (some (.ref b_)))
  (pg_Plan:PySem.W.plainGet K b_ Str.empty=true)
  (hd_Plan:PySem.W.hasDictIn K b_=true)
  (po_Plan:PySem.W.plainOver K b_=true)
  (sa_Plan:PySem.W.findIn K (.ref b_) "__setattr__"=some (some (.builtin "object.__setattr__")))
  (mk_Plan:PySem.W.makesIn K b_=true)
  (kc_Plan:PySem.W.keepIn K (.ref b_)=true)
  (aC_Sums:PySem.W.nsIn K mainGlobals "Sums"=some (some (.ref bg)))
  (pg_Sums:PySem.W.plainGet K bg Str.empty=true)
  (hd_Sums:PySem.W.hasDictIn K bg=true)
  (po_Sums:PySem.W.plainOver K bg=true)
  (sa_Sums:PySem.W.findIn K (.ref bg) "__setattr__"=some (some (.builtin "object.__setattr__")))
  (mk_Sums:PySem.W.makesIn K bg=true)
  (kc_Sums:PySem.W.keepIn K (.ref bg)=true)
  (in_Sums:PySem.W.findIn K (.ref bg) "__init__"=some (some (.builtin "object.__init__")))
  (n_Plan_chosen:PySem.W.findIn K (.ref b_) "chosen"=some none)
  (n_Plan_corners:PySem.W.findIn K (.ref b_) "corners"=some none)
  (n_Plan_letters:PySem.W.findIn K (.ref b_) "letters"=some none)
  (q_ALONG_PILLARS:PySem.W.nsIn K mainGlobals "ALONG_PILLARS"=some (some (.ref bU)))
  (lk_ALONG_PILLARS:K.lookup bU=some ⟨.type "tuple",od_ALONG_PILLARS,.seq #[.str (Str.ofString "p") tk_ALONG_PILLARS_0,.str (Str.ofString "b") tk_ALONG_PILLARS_1] nn_ALONG_PILLARS,sl_ALONG_PILLARS⟩)
  (q_ALONG_ROWS:PySem.W.nsIn K mainGlobals "ALONG_ROWS"=some (some (.ref cQ)))
  (lk_ALONG_ROWS:K.lookup cQ=some ⟨.type "tuple",od_ALONG_ROWS,.seq #[.str (Str.ofString "r") tk_ALONG_ROWS_0,.str (Str.ofString "b") tk_ALONG_ROWS_1] nn_ALONG_ROWS,sl_ALONG_ROWS⟩)
  (y_bs:PySem.W.kitOne K (.type "bool") (.type "str")=some false)
  (y_is:PySem.W.kitOne K (.type "int") (.type "str")=some false)
  (y_ns:PySem.W.kitOne K (.type "NoneType") (.type "str")=some false)
  (y_ss:PySem.W.kitOne K (.type "str") (.type "str")=some true)
  (y_ls:PySem.W.kitOne K (.type "list") (.type "str")=some false)
  (y_ts:PySem.W.kitOne K (.type "tuple") (.type "str")=some false)
  (y_ds:PySem.W.kitOne K (.type "dict") (.type "str")=some false)
  (a0:PySem.W.nsIn K mainGlobals "is_whole"=some (some (.ref f0)))
  (l0:K.lookup f0=some ⟨oc0,od0,.func (PySem.W.fnOf "is_whole" "is_whole" (ai cY) (ah cY) (ab cY) .none kV0 dc0 pm0 an0 cd0 ct0),sl0⟩)
  (c0:PySem.W.codeIn K cd0 "is_whole"=true)
  (k0:PySem.W.keepIn K (.ref f0)=true)
  (a1:PySem.W.nsIn K mainGlobals "is_number"=some (some (.ref f1)))
  (l1:K.lookup f1=some ⟨oc1,od1,.func (PySem.W.fnOf "is_number" "is_number" (ai cy) (ah cy) (ab cy) .none kV1 dc1 pm1 an1 cd1 ct1),sl1⟩)
  (c1:PySem.W.codeIn K cd1 "is_number"=true)
  (k1:PySem.W.keepIn K (.ref f1)=true)
  (a2:PySem.W.nsIn K mainGlobals "is_row"=some (some (.ref f2)))
  (l2:K.lookup f2=some ⟨oc2,od2,.func (PySem.W.fnOf "is_row" "is_row" (ai dU) (ah dU) (ab dU) .none kV2 dc2 pm2 an2 cd2 ct2),sl2⟩)
  (c2:PySem.W.codeIn K cd2 "is_row"=true)
  (k2:PySem.W.keepIn K (.ref f2)=true)
  (a3:PySem.W.nsIn K mainGlobals "are_halves"=some (some (.ref f3)))
  (l3:K.lookup f3=some ⟨oc3,od3,.func (PySem.W.fnOf "are_halves" "are_halves" (ai b8) (ah b8) (ab b8) .none kV3 dc3 pm3 an3 cd3 ct3),sl3⟩)
  (c3:PySem.W.codeIn K cd3 "are_halves"=true)
  (k3:PySem.W.keepIn K (.ref f3)=true)
  (a4:PySem.W.nsIn K mainGlobals "is_size"=some (some (.ref f4)))
  (l4:K.lookup f4=some ⟨oc4,od4,.func (PySem.W.fnOf "is_size" "is_size" (ai dD) (ah dD) (ab dD) .none kV4 dc4 pm4 an4 cd4 ct4),sl4⟩)
  (c4:PySem.W.codeIn K cd4 "is_size"=true)
  (k4:PySem.W.keepIn K (.ref f4)=true)
  (a5:PySem.W.nsIn K mainGlobals "pairs_of"=some (some (.ref f5)))
  (l5:K.lookup f5=some ⟨oc5,od5,.func (PySem.W.fnOf "pairs_of" "pairs_of" (ai cX) (ah cX) (ab cX) .none kV5 dc5 pm5 an5 cd5 ct5),sl5⟩)
  (c5:PySem.W.codeIn K cd5 "pairs_of"=true)
  (k5:PySem.W.keepIn K (.ref f5)=true)
  (a6:PySem.W.nsIn K mainGlobals "gaps_of"=some (some (.ref f6)))
  (l6:K.lookup f6=some ⟨oc6,od6,.func (PySem.W.fnOf "gaps_of" "gaps_of" (ai df) (ah df) (ab df) .none kV6 dc6 pm6 an6 cd6 ct6),sl6⟩)
  (c6:PySem.W.codeIn K cd6 "gaps_of"=true)
  (k6:PySem.W.keepIn K (.ref f6)=true)
  (a7:PySem.W.findIn K (.ref bg) "word"=some (some (.ref f7)))
  (i7:PySem.W.isFn K (.ref f7)=true)
  (l7:K.lookup f7=some ⟨oc7,od7,.func (PySem.W.fnOf "word" "Sums.word" (ai cG) (ah cG) (ab cG) .none kV7 dc7 pm7 an7 cd7 ct7),sl7⟩)
  (c7:PySem.W.codeIn K cd7 "Sums.word"=true)
  (k7:PySem.W.keepIn K (.ref f7)=true)
  (a8:PySem.W.findIn K (.ref az) "halves"=some (some (.ref f8)))
  (i8:PySem.W.isFn K (.ref f8)=true)
  (l8:K.lookup f8=some ⟨oc8,od8,.func (PySem.W.fnOf "halves" "Sums.halves" (ai bO) (ah bO) (ab bO) .none kV8 dc8 pm8 an8 cd8 ct8),sl8⟩)
  (c8:PySem.W.codeIn K cd8 "Sums.halves"=true)
  (k8:PySem.W.keepIn K (.ref f8)=true)
  (a9:PySem.W.findIn K (.ref az) "back"=some (some (.ref f9)))
  (i9:PySem.W.isFn K (.ref f9)=true)
  (l9:K.lookup f9=some ⟨oc9,od9,.func (PySem.W.fnOf "back" "Sums.back" (ai cH) (ah cH) (ab cH) .none kV9 dc9 pm9 an9 cd9 ct9),sl9⟩)
  (c9:PySem.W.codeIn K cd9 "Sums.back"=true)
  (k9:PySem.W.keepIn K (.ref f9)=true)
  (a10:PySem.W.findIn K (.ref aF) "parted"=some (some (.ref f10)))
  (i10:PySem.W.isFn K (.ref f10)=true)
  (l10:K.lookup f10=some ⟨oc10,od10,.func (PySem.W.fnOf "parted" "Sums.parted" (ai bM) (ah bM) (ab bM) .none kV10 dc10 pm10 an10 cd10 ct10),sl10⟩)
  (c10:PySem.W.codeIn K cd10 "Sums.parted"=true)
  (k10:PySem.W.keepIn K (.ref f10)=true)
  (a11:PySem.W.findIn K (.ref aF) "joined"=some (some (.ref f11)))
  (i11:PySem.W.isFn K (.ref f11)=true)
  (l11:K.lookup f11=some ⟨oc11,od11,.func (PySem.W.fnOf "joined" "Sums.joined" (ai bN) (ah bN) (ab bN) .none kV11 dc11 pm11 an11 cd11 ct11),sl11⟩)
  (c11:PySem.W.codeIn K cd11 "Sums.joined"=true)
  (k11:PySem.W.keepIn K (.ref f11)=true)
  (a12:PySem.W.findIn K (.ref az) "sums_of"=some (some (.ref f12)))
  (i12:PySem.W.isFn K (.ref f12)=true)
  (l12:K.lookup f12=some ⟨oc12,od12,.func (PySem.W.fnOf "sums_of" "Sums.sums_of" (ai bw) (ah bw) (ab bw) .none kV12 dc12 pm12 an12 cd12 ct12),sl12⟩)
  (c12:PySem.W.codeIn K cd12 "Sums.sums_of"=true)
  (k12:PySem.W.keepIn K (.ref f12)=true)
  (a13:PySem.W.findIn K (.ref az) "row_of"=some (some (.ref f13)))
  (i13:PySem.W.isFn K (.ref f13)=true)
  (l13:K.lookup f13=some ⟨oc13,od13,.func (PySem.W.fnOf "row_of" "Sums.row_of" (ai bL) (ah bL) (ab bL) .none kV13 dc13 pm13 an13 cd13 ct13),sl13⟩)
  (c13:PySem.W.codeIn K cd13 "Sums.row_of"=true)
  (k13:PySem.W.keepIn K (.ref f13)=true)
  (a14:PySem.W.findIn K (.ref az) "sum_of_pair"=some (some (.ref f14)))
  (i14:PySem.W.isFn K (.ref f14)=true)
  (l14:K.lookup f14=some ⟨oc14,od14,.func (PySem.W.fnOf "sum_of_pair" "Sums.sum_of_pair" (ai aW) (ah aW) (ab aW) .none kV14 dc14 pm14 an14 cd14 ct14),sl14⟩)
  (c14:PySem.W.codeIn K cd14 "Sums.sum_of_pair"=true)
  (k14:PySem.W.keepIn K (.ref f14)=true)
  (a15:PySem.W.findIn K (.ref az) "sum_of_lone"=some (some (.ref f15)))
  (i15:PySem.W.isFn K (.ref f15)=true)
  (l15:K.lookup f15=some ⟨oc15,od15,.func (PySem.W.fnOf "sum_of_lone" "Sums.sum_of_lone" (ai aX) (ah aX) (ab aX) .none kV15 dc15 pm15 an15 cd15 ct15),sl15⟩)
  (c15:PySem.W.codeIn K cd15 "Sums.sum_of_lone"=true)
  (k15:PySem.W.keepIn K (.ref f15)=true)
  (a16:PySem.W.findIn K (.ref az) "pair_of"=some (some (.ref f16)))
  (i16:PySem.W.isFn K (.ref f16)=true)
  (l16:K.lookup f16=some ⟨oc16,od16,.func (PySem.W.fnOf "pair_of" "Sums.pair_of" (ai bB) (ah bB) (ab bB) .none kV16 dc16 pm16 an16 cd16 ct16),sl16⟩)
  (c16:PySem.W.codeIn K cd16 "Sums.pair_of"=true)
  (k16:PySem.W.keepIn K (.ref f16)=true)
  (a17:PySem.W.findIn K (.ref az) "lone_of"=some (some (.ref f17)))
  (i17:PySem.W.isFn K (.ref f17)=true)
  (l17:K.lookup f17=some ⟨oc17,od17,.func (PySem.W.fnOf "lone_of" "Sums.lone_of" (ai bC) (ah bC) (ab bC) .none kV17 dc17 pm17 an17 cd17 ct17),sl17⟩)
  (c17:PySem.W.codeIn K cd17 "Sums.lone_of"=true)
  (k17:PySem.W.keepIn K (.ref f17)=true)
  (a18:PySem.W.findIn K (.ref aF) "word"=some (some (.ref f18)))
  (i18:PySem.W.isFn K (.ref f18)=true)
  (l18:K.lookup f18=some ⟨oc18,od18,.func (PySem.W.fnOf "word" "Halves.word" (ai bP) (ah bP) (ab bP) .none kV18 dc18 pm18 an18 cd18 ct18),sl18⟩)
  (c18:PySem.W.codeIn K cd18 "Halves.word"=true)
  (k18:PySem.W.keepIn K (.ref f18)=true)
  (a19:PySem.W.findIn K (.ref aF) "sum_of_pair"=some (some (.ref f19)))
  (i19:PySem.W.isFn K (.ref f19)=true)
  (l19:K.lookup f19=some ⟨oc19,od19,.func (PySem.W.fnOf "sum_of_pair" "Halves.sum_of_pair" (ai aL) (ah aL) (ab aL) .none kV19 dc19 pm19 an19 cd19 ct19),sl19⟩)
  (c19:PySem.W.codeIn K cd19 "Halves.sum_of_pair"=true)
  (k19:PySem.W.keepIn K (.ref f19)=true)
  (a20:PySem.W.findIn K (.ref aF) "sum_of_lone"=some (some (.ref f20)))
  (i20:PySem.W.isFn K (.ref f20)=true)
  (l20:K.lookup f20=some ⟨oc20,od20,.func (PySem.W.fnOf "sum_of_lone" "Halves.sum_of_lone" (ai aM) (ah aM) (ab aM) .none kV20 dc20 pm20 an20 cd20 ct20),sl20⟩)
  (c20:PySem.W.codeIn K cd20 "Halves.sum_of_lone"=true)
  (k20:PySem.W.keepIn K (.ref f20)=true)
  (a21:PySem.W.findIn K (.ref aF) "pair_of"=some (some (.ref f21)))
  (i21:PySem.W.isFn K (.ref f21)=true)
  (l21:K.lookup f21=some ⟨oc21,od21,.func (PySem.W.fnOf "pair_of" "Halves.pair_of" (ai bj) (ah bj) (ab bj) .none kV21 dc21 pm21 an21 cd21 ct21),sl21⟩)
  (c21:PySem.W.codeIn K cd21 "Halves.pair_of"=true)
  (k21:PySem.W.keepIn K (.ref f21)=true)
  (a22:PySem.W.findIn K (.ref aF) "lone_of"=some (some (.ref f22)))
  (i22:PySem.W.isFn K (.ref f22)=true)
  (l22:K.lookup f22=some ⟨oc22,od22,.func (PySem.W.fnOf "lone_of" "Halves.lone_of" (ai bp) (ah bp) (ab bp) .none kV22 dc22 pm22 an22 cd22 ct22),sl22⟩)
  (c22:PySem.W.codeIn K cd22 "Halves.lone_of"=true)
  (k22:PySem.W.keepIn K (.ref f22)=true)
  (a23:PySem.W.nsIn K mainGlobals "near"=some (some (.ref f23)))
  (l23:K.lookup f23=some ⟨oc23,od23,.func (PySem.W.fnOf "near" "near" (ai iB) (ah iB) (ab iB) .none kV23 dc23 pm23 an23 cd23 ct23),sl23⟩)
  (c23:PySem.W.codeIn K cd23 "near"=true)
  (k23:PySem.W.keepIn K (.ref f23)=true)
  (a24:PySem.W.nsIn K mainGlobals "woven"=some (some (.ref f24)))
  (l24:K.lookup f24=some ⟨oc24,od24,.func (PySem.W.fnOf "woven" "woven" (ai fZ) (ah fZ) (ab fZ) .none kV24 dc24 pm24 an24 cd24 ct24),sl24⟩)
  (c24:PySem.W.codeIn K cd24 "woven"=true)
  (k24:PySem.W.keepIn K (.ref f24)=true)
  (a25:PySem.W.nsIn K mainGlobals "guesses"=some (some (.ref f25)))
  (l25:K.lookup f25=some ⟨oc25,od25,.func (PySem.W.fnOf "guesses" "guesses" (ai de) (ah de) (ab de) .none kV25 dc25 pm25 an25 cd25 ct25),sl25⟩)
  (c25:PySem.W.codeIn K cd25 "guesses"=true)
  (k25:PySem.W.keepIn K (.ref f25)=true)
  (a26:PySem.W.nsIn K mainGlobals "lifts"=some (some (.ref f26)))
  (l26:K.lookup f26=some ⟨oc26,od26,.func (PySem.W.fnOf "lifts" "lifts" (ai eW) (ah eW) (ab eW) .none kV26 dc26 pm26 an26 cd26 ct26),sl26⟩)
  (c26:PySem.W.codeIn K cd26 "lifts"=true)
  (k26:PySem.W.keepIn K (.ref f26)=true)
  (a27:PySem.W.nsIn K mainGlobals "leans"=some (some (.ref f27)))
  (l27:K.lookup f27=some ⟨oc27,od27,.func (PySem.W.fnOf "leans" "leans" (ai eX) (ah eX) (ab eX) .none kV27 dc27 pm27 an27 cd27 ct27),sl27⟩)
  (c27:PySem.W.codeIn K cd27 "leans"=true)
  (k27:PySem.W.keepIn K (.ref f27)=true)
  (a28:PySem.W.findIn K (.ref az) "word"=some (some (.ref f28)))
  (i28:PySem.W.isFn K (.ref f28)=true)
  (l28:K.lookup f28=some ⟨oc28,od28,.func (PySem.W.fnOf "word" "Guessed.word" (ai bE) (ah bE) (ab bE) .none kV28 dc28 pm28 an28 cd28 ct28),sl28⟩)
  (c28:PySem.W.codeIn K cd28 "Guessed.word"=true)
  (k28:PySem.W.keepIn K (.ref f28)=true)
  (a29:PySem.W.findIn K (.ref az) "parted"=some (some (.ref f29)))
  (i29:PySem.W.isFn K (.ref f29)=true)
  (l29:K.lookup f29=some ⟨oc29,od29,.func (PySem.W.fnOf "parted" "Guessed.parted" (ai aU) (ah aU) (ab aU) .none kV29 dc29 pm29 an29 cd29 ct29),sl29⟩)
  (c29:PySem.W.codeIn K cd29 "Guessed.parted"=true)
  (k29:PySem.W.keepIn K (.ref f29)=true)
  (a30:PySem.W.findIn K (.ref az) "joined"=some (some (.ref f30)))
  (i30:PySem.W.isFn K (.ref f30)=true)
  (l30:K.lookup f30=some ⟨oc30,od30,.func (PySem.W.fnOf "joined" "Guessed.joined" (ai aV) (ah aV) (ab aV) .none kV30 dc30 pm30 an30 cd30 ct30),sl30⟩)
  (c30:PySem.W.codeIn K cd30 "Guessed.joined"=true)
  (k30:PySem.W.keepIn K (.ref f30)=true)
  (a31:PySem.W.findIn K (.ref ay) "word"=some (some (.ref f31)))
  (i31:PySem.W.isFn K (.ref f31)=true)
  (l31:K.lookup f31=some ⟨oc31,od31,.func (PySem.W.fnOf "word" "Leaning.word" (ai bD) (ah bD) (ab bD) .none kV31 dc31 pm31 an31 cd31 ct31),sl31⟩)
  (c31:PySem.W.codeIn K cd31 "Leaning.word"=true)
  (k31:PySem.W.keepIn K (.ref f31)=true)
  (a32:PySem.W.findIn K (.ref ay) "parted"=some (some (.ref f32)))
  (i32:PySem.W.isFn K (.ref f32)=true)
  (l32:K.lookup f32=some ⟨oc32,od32,.func (PySem.W.fnOf "parted" "Leaning.parted" (ai aZ) (ah aZ) (ab aZ) .none kV32 dc32 pm32 an32 cd32 ct32),sl32⟩)
  (c32:PySem.W.codeIn K cd32 "Leaning.parted"=true)
  (k32:PySem.W.keepIn K (.ref f32)=true)
  (a33:PySem.W.findIn K (.ref ay) "joined"=some (some (.ref f33)))
  (i33:PySem.W.isFn K (.ref f33)=true)
  (l33:K.lookup f33=some ⟨oc33,od33,.func (PySem.W.fnOf "joined" "Leaning.joined" (ai a_) (ah a_) (ab a_) .none kV33 dc33 pm33 an33 cd33 ct33),sl33⟩)
  (c33:PySem.W.codeIn K cd33 "Leaning.joined"=true)
  (k33:PySem.W.keepIn K (.ref f33)=true)
  (a34:PySem.W.nsIn K mainGlobals "all_rules"=some (some (.ref f34)))
  (l34:K.lookup f34=some ⟨oc34,od34,.func (PySem.W.fnOf "all_rules" "all_rules" (ai cA) (ah cA) (ab cA) .none kV34 dc34 pm34 an34 cd34 ct34),sl34⟩)
  (c34:PySem.W.codeIn K cd34 "all_rules"=true)
  (k34:PySem.W.keepIn K (.ref f34)=true)
  (a35:PySem.W.nsIn K mainGlobals "rule_of"=some (some (.ref f35)))
  (l35:K.lookup f35=some ⟨oc35,od35,.func (PySem.W.fnOf "rule_of" "rule_of" (ai dC) (ah dC) (ab dC) .none kV35 dc35 pm35 an35 cd35 ct35),sl35⟩)
  (c35:PySem.W.codeIn K cd35 "rule_of"=true)
  (k35:PySem.W.keepIn K (.ref f35)=true)
  (a36:PySem.W.nsIn K mainGlobals "can_halve"=some (some (.ref f36)))
  (l36:K.lookup f36=some ⟨oc36,od36,.func (PySem.W.fnOf "can_halve" "can_halve" (ai cz) (ah cz) (ab cz) .none kV36 dc36 pm36 an36 cd36 ct36),sl36⟩)
  (c36:PySem.W.codeIn K cd36 "can_halve"=true)
  (k36:PySem.W.keepIn K (.ref f36)=true)
  (a37:PySem.W.nsIn K mainGlobals "corners_of"=some (some (.ref f37)))
  (l37:K.lookup f37=some ⟨oc37,od37,.func (PySem.W.fnOf "corners_of" "corners_of" (ai b7) (ah b7) (ab b7) .none kV37 dc37 pm37 an37 cd37 ct37),sl37⟩)
  (c37:PySem.W.codeIn K cd37 "corners_of"=true)
  (k37:PySem.W.keepIn K (.ref f37)=true)
  (a38:PySem.W.findIn K (.ref b_) "__init__"=some (some (.ref f38)))
  (i38:PySem.W.isFn K (.ref f38)=true)
  (l38:K.lookup f38=some ⟨oc38,od38,.func (PySem.W.fnOf "__init__" "Plan.__init__" (ai bz) (ah bz) (ab bz) .none kV38 dc38 pm38 an38 cd38 ct38),sl38⟩)
  (c38:PySem.W.codeIn K cd38 "Plan.__init__"=true)
  (k38:PySem.W.keepIn K (.ref f38)=true)
  (a39:PySem.W.findIn K (.ref b_) "rule"=some (some (.ref f39)))
  (i39:PySem.W.isFn K (.ref f39)=true)
  (l39:K.lookup f39=some ⟨oc39,od39,.func (PySem.W.fnOf "rule" "Plan.rule" (ai cI) (ah cI) (ab cI) .none kV39 dc39 pm39 an39 cd39 ct39),sl39⟩)
  (c39:PySem.W.codeIn K cd39 "Plan.rule"=true)
  (k39:PySem.W.keepIn K (.ref f39)=true)
  (a40:PySem.W.nsIn K mainGlobals "_law_cell"=some (some (.ref f40)))
  (l40:K.lookup f40=some ⟨oc40,od40,.func (PySem.W.fnOf "_law_cell" "_law_cell" (ai cF) (ah cF) (ab cF) .none kV40 dc40 pm40 an40 cd40 ct40),sl40⟩)
  (c40:PySem.W.codeIn K cd40 "_law_cell"=true)
  (k40:PySem.W.keepIn K (.ref f40)=true)
  (a41:PySem.W.nsIn K mainGlobals "_law_box"=some (some (.ref f41)))
  (l41:K.lookup f41=some ⟨oc41,od41,.func (PySem.W.fnOf "_law_box" "_law_box" (ai cZ) (ah cZ) (ab cZ) .none kV41 dc41 pm41 an41 cd41 ct41),sl41⟩)
  (c41:PySem.W.codeIn K cd41 "_law_box"=true)
  (k41:PySem.W.keepIn K (.ref f41)=true)
  (a42:PySem.W.nsIn K mainGlobals "_law_take"=some (some (.ref f42)))
  (l42:K.lookup f42=some ⟨oc42,od42,.func (PySem.W.fnOf "_law_take" "_law_take" (ai cB) (ah cB) (ab cB) .none kV42 dc42 pm42 an42 cd42 ct42),sl42⟩)
  (c42:PySem.W.codeIn K cd42 "_law_take"=true)
  (k42:PySem.W.keepIn K (.ref f42)=true)
  (a43:PySem.W.nsIn K mainGlobals "_law_number"=some (some (.ref f43)))
  (l43:K.lookup f43=some ⟨oc43,od43,.func (PySem.W.fnOf "_law_number" "_law_number" (ai bK) (ah bK) (ab bK) .none kV43 dc43 pm43 an43 cd43 ct43),sl43⟩)
  (c43:PySem.W.codeIn K cd43 "_law_number"=true)
  (k43:PySem.W.keepIn K (.ref f43)=true)
  (a44:PySem.W.nsIn K mainGlobals "_law_row"=some (some (.ref f44)))
  (l44:K.lookup f44=some ⟨oc44,od44,.func (PySem.W.fnOf "_law_row" "_law_row" (ai bY) (ah bY) (ab bY) .none kV44 dc44 pm44 an44 cd44 ct44),sl44⟩)
  (c44:PySem.W.codeIn K cd44 "_law_row"=true)
  (k44:PySem.W.keepIn K (.ref f44)=true)
  (a45:PySem.W.nsIn K mainGlobals "_law_halves_of"=some (some (.ref f45)))
  (l45:K.lookup f45=some ⟨oc45,od45,.func (PySem.W.fnOf "_law_halves_of" "_law_halves_of" (ai aT) (ah aT) (ab aT) .none kV45 dc45 pm45 an45 cd45 ct45),sl45⟩)
  (c45:PySem.W.codeIn K cd45 "_law_halves_of"=true)
  (k45:PySem.W.keepIn K (.ref f45)=true)
  (a46:PySem.W.nsIn K mainGlobals "_law_even"=some (some (.ref f46)))
  (l46:K.lookup f46=some ⟨oc46,od46,.func (PySem.W.fnOf "_law_even" "_law_even" (ai cE) (ah cE) (ab cE) .none kV46 dc46 pm46 an46 cd46 ct46),sl46⟩)
  (c46:PySem.W.codeIn K cd46 "_law_even"=true)
  (k46:PySem.W.keepIn K (.ref f46)=true)
  (a47:PySem.W.nsIn K mainGlobals "_law_fits"=some (some (.ref f47)))
  (l47:K.lookup f47=some ⟨oc47,od47,.func (PySem.W.fnOf "_law_fits" "_law_fits" (ai cC) (ah cC) (ab cC) .none kV47 dc47 pm47 an47 cd47 ct47),sl47⟩)
  (c47:PySem.W.codeIn K cd47 "_law_fits"=true)
  (k47:PySem.W.keepIn K (.ref f47)=true)
  (a48:PySem.W.nsIn K mainGlobals "_law_small"=some (some (.ref f48)))
  (l48:K.lookup f48=some ⟨oc48,od48,.func (PySem.W.fnOf "_law_small" "_law_small" (ai bR) (ah bR) (ab bR) .none kV48 dc48 pm48 an48 cd48 ct48),sl48⟩)
  (c48:PySem.W.codeIn K cd48 "_law_small"=true)
  (k48:PySem.W.keepIn K (.ref f48)=true)
  (a49:PySem.W.nsIn K mainGlobals "_law_row_right"=some (some (.ref f49)))
  (l49:K.lookup f49=some ⟨oc49,od49,.func (PySem.W.fnOf "_law_row_right" "_law_row_right" (ai bh) (ah bh) (ab bh) .none kV49 dc49 pm49 an49 cd49 ct49),sl49⟩)
  (c49:PySem.W.codeIn K cd49 "_law_row_right"=true)
  (k49:PySem.W.keepIn K (.ref f49)=true)
  (a50:PySem.W.nsIn K mainGlobals "_law_halves_right"=some (some (.ref f50)))
  (l50:K.lookup f50=some ⟨oc50,od50,.func (PySem.W.fnOf "_law_halves_right" "_law_halves_right" (ai aR) (ah aR) (ab aR) .none kV50 dc50 pm50 an50 cd50 ct50),sl50⟩)
  (c50:PySem.W.codeIn K cd50 "_law_halves_right"=true)
  (k50:PySem.W.keepIn K (.ref f50)=true)
  (a51:PySem.W.nsIn K mainGlobals "_law_kept_right"=some (some (.ref f51)))
  (l51:K.lookup f51=some ⟨oc51,od51,.func (PySem.W.fnOf "_law_kept_right" "_law_kept_right" (ai aQ) (ah aQ) (ab aQ) .none kV51 dc51 pm51 an51 cd51 ct51),sl51⟩)
  (c51:PySem.W.codeIn K cd51 "_law_kept_right"=true)
  (k51:PySem.W.keepIn K (.ref f51)=true)
  (a52:PySem.W.nsIn K mainGlobals "law"=some (some (.ref f52)))
  (l52:K.lookup f52=some ⟨oc52,od52,.func (PySem.W.fnOf "law" "law" (ai kd) (ah kd) (ab kd) .none kV52 dc52 pm52 an52 cd52 ct52),sl52⟩)
  (c52:PySem.W.codeIn K cd52 "law"=true)
  (k52:PySem.W.keepIn K (.ref f52)=true)
  (e_Halves_halves:PySem.W.findIn K (.ref aF) "halves"=some (some (.ref f8)))
  (e_Halves_back:PySem.W.findIn K (.ref aF) "back"=some (some (.ref f9)))
  (e_Halves_sums_of:PySem.W.findIn K (.ref aF) "sums_of"=some (some (.ref f12)))
  (e_Halves_row_of:PySem.W.findIn K (.ref aF) "row_of"=some (some (.ref f13)))
  (e_Leaning_sum_of_pair:PySem.W.findIn K (.ref ay) "sum_of_pair"=some (some (.ref f19)))
  (e_Leaning_sum_of_lone:PySem.W.findIn K (.ref ay) "sum_of_lone"=some (some (.ref f20)))
  (e_Leaning_pair_of:PySem.W.findIn K (.ref ay) "pair_of"=some (some (.ref f21)))
  (e_Leaning_lone_of:PySem.W.findIn K (.ref ay) "lone_of"=some (some (.ref f22)))
  (e_Leaning_halves:PySem.W.findIn K (.ref ay) "halves"=some (some (.ref f8)))
  (e_Leaning_back:PySem.W.findIn K (.ref ay) "back"=some (some (.ref f9)))
  (e_Leaning_sums_of:PySem.W.findIn K (.ref ay) "sums_of"=some (some (.ref f12)))
  (e_Leaning_row_of:PySem.W.findIn K (.ref ay) "row_of"=some (some (.ref f13)))
  (e_Sums_halves:PySem.W.findIn K (.ref bg) "halves"=some (some (.ref f8)))
  (e_Sums_back:PySem.W.findIn K (.ref bg) "back"=some (some (.ref f9)))
  (e_Sums_parted:PySem.W.findIn K (.ref bg) "parted"=some (some (.ref f10)))
  (e_Sums_joined:PySem.W.findIn K (.ref bg) "joined"=some (some (.ref f11)))
  (e_Sums_sums_of:PySem.W.findIn K (.ref bg) "sums_of"=some (some (.ref f12)))
  (e_Sums_row_of:PySem.W.findIn K (.ref bg) "row_of"=some (some (.ref f13)))
  (e_Sums_sum_of_pair:PySem.W.findIn K (.ref bg) "sum_of_pair"=some (some (.ref f14)))
  (e_Sums_sum_of_lone:PySem.W.findIn K (.ref bg) "sum_of_lone"=some (some (.ref f15)))
  (e_Sums_pair_of:PySem.W.findIn K (.ref bg) "pair_of"=some (some (.ref f16)))
  (e_Sums_lone_of:PySem.W.findIn K (.ref bg) "lone_of"=some (some (.ref f17)))
  (q_MOST_NUMBER:PySem.W.nsIn K mainGlobals "MOST_NUMBER"=some (some (.int 999999999999999 t_MOST_NUMBER)))
  (q_MOST_PLACES:PySem.W.nsIn K mainGlobals "MOST_PLACES"=some (some (.int 512 t_MOST_PLACES)))
  (q_MOST_SIDE:PySem.W.nsIn K mainGlobals "MOST_SIDE"=some (some (.int 64 t_MOST_SIDE)))
  (z_abs:PySem.W.nsIn K mainGlobals "abs"=some none)
  (z_all:PySem.W.nsIn K mainGlobals "all"=some none)
  (z_bool:PySem.W.nsIn K mainGlobals "bool"=some none)
  (z_enumerate:PySem.W.nsIn K mainGlobals "enumerate"=some none)
  (z_int:PySem.W.nsIn K mainGlobals "int"=some none)
  (z_isinstance:PySem.W.nsIn K mainGlobals "isinstance"=some none)
  (z_len:PySem.W.nsIn K mainGlobals "len"=some none)
  (z_list:PySem.W.nsIn K mainGlobals "list"=some none)
  (z_max:PySem.W.nsIn K mainGlobals "max"=some none)
  (z_min:PySem.W.nsIn K mainGlobals "min"=some none)
  (z_range:PySem.W.nsIn K mainGlobals "range"=some none)
  (z_repr:PySem.W.nsIn K mainGlobals "repr"=some none)
  (z_str:PySem.W.nsIn K mainGlobals "str"=some none)
  (z_tuple:PySem.W.nsIn K mainGlobals "tuple"=some none)
  (z_zip:PySem.W.nsIn K mainGlobals "zip"=some none)
  (y_bb:PySem.W.kitOne K (.type "bool") (.type "bool")=some true)
  (y_bi:PySem.W.kitOne K (.type "bool") (.type "int")=some true)
  (y_bl:PySem.W.kitOne K (.type "bool") (.type "list")=some false)
  (y_bt:PySem.W.kitOne K (.type "bool") (.type "tuple")=some false)
  (y_ib:PySem.W.kitOne K (.type "int") (.type "bool")=some false)
  (y_ii:PySem.W.kitOne K (.type "int") (.type "int")=some true)
  (y_il:PySem.W.kitOne K (.type "int") (.type "list")=some false)
  (y_it:PySem.W.kitOne K (.type "int") (.type "tuple")=some false)
  (y_nb:PySem.W.kitOne K (.type "NoneType") (.type "bool")=some false)
  (y_ni:PySem.W.kitOne K (.type "NoneType") (.type "int")=some false)
  (y_nl:PySem.W.kitOne K (.type "NoneType") (.type "list")=some false)
  (y_nt:PySem.W.kitOne K (.type "NoneType") (.type "tuple")=some false)
  (y_sb:PySem.W.kitOne K (.type "str") (.type "bool")=some false)
  (y_si:PySem.W.kitOne K (.type "str") (.type "int")=some false)
  (y_sl:PySem.W.kitOne K (.type "str") (.type "list")=some false)
  (y_st:PySem.W.kitOne K (.type "str") (.type "tuple")=some false)
  (y_lb:PySem.W.kitOne K (.type "list") (.type "bool")=some false)
  (y_li:PySem.W.kitOne K (.type "list") (.type "int")=some false)
  (y_ll:PySem.W.kitOne K (.type "list") (.type "list")=some true)
  (y_lt:PySem.W.kitOne K (.type "list") (.type "tuple")=some false)
  (y_tb:PySem.W.kitOne K (.type "tuple") (.type "bool")=some false)
  (y_ti:PySem.W.kitOne K (.type "tuple") (.type "int")=some false)
  (y_tl:PySem.W.kitOne K (.type "tuple") (.type "list")=some false)
  (y_tt:PySem.W.kitOne K (.type "tuple") (.type "tuple")=some true)
  (y_db:PySem.W.kitOne K (.type "dict") (.type "bool")=some false)
  (y_di:PySem.W.kitOne K (.type "dict") (.type "int")=some false)
  (y_dl:PySem.W.kitOne K (.type "dict") (.type "list")=some false)
  (y_dt:PySem.W.kitOne K (.type "dict") (.type "tuple")=some false) :
  ∃ fd:FuncData,(∀ (s:Shared) (v:Value),BindsTo s fd ⟨[v],[]⟩ [("_law_script",v)])∧∀ base:Heap,K.In base→base.Ns mainGlobals mg→aY l.prog w K mg base CX0 7 fa fd ["_law_script"] (tE K):=by
 have e:=hfa.symm.trans (PySem.W.mg_of X G a52)
 cases e
 have T:Txt K mg ⟨bU,cQ,az,aF,ay,b_,bg,f0,PySem.W.fnOf "is_whole" "is_whole" (ai cY) (ah cY) (ab cY) .none kV0 dc0 pm0 an0 cd0 ct0,f1,PySem.W.fnOf "is_number" "is_number" (ai cy) (ah cy) (ab cy) .none kV1 dc1 pm1 an1 cd1 ct1,f2,PySem.W.fnOf "is_row" "is_row" (ai dU) (ah dU) (ab dU) .none kV2 dc2 pm2 an2 cd2 ct2,f3,PySem.W.fnOf "are_halves" "are_halves" (ai b8) (ah b8) (ab b8) .none kV3 dc3 pm3 an3 cd3 ct3,f4,PySem.W.fnOf "is_size" "is_size" (ai dD) (ah dD) (ab dD) .none kV4 dc4 pm4 an4 cd4 ct4,f5,PySem.W.fnOf "pairs_of" "pairs_of" (ai cX) (ah cX) (ab cX) .none kV5 dc5 pm5 an5 cd5 ct5,f6,PySem.W.fnOf "gaps_of" "gaps_of" (ai df) (ah df) (ab df) .none kV6 dc6 pm6 an6 cd6 ct6,f7,PySem.W.fnOf "word" "Sums.word" (ai cG) (ah cG) (ab cG) .none kV7 dc7 pm7 an7 cd7 ct7,f8,PySem.W.fnOf "halves" "Sums.halves" (ai bO) (ah bO) (ab bO) .none kV8 dc8 pm8 an8 cd8 ct8,f9,PySem.W.fnOf "back" "Sums.back" (ai cH) (ah cH) (ab cH) .none kV9 dc9 pm9 an9 cd9 ct9,f10,PySem.W.fnOf "parted" "Sums.parted" (ai bM) (ah bM) (ab bM) .none kV10 dc10 pm10 an10 cd10 ct10,f11,PySem.W.fnOf "joined" "Sums.joined" (ai bN) (ah bN) (ab bN) .none kV11 dc11 pm11 an11 cd11 ct11,f12,PySem.W.fnOf "sums_of" "Sums.sums_of" (ai bw) (ah bw) (ab bw) .none kV12 dc12 pm12 an12 cd12 ct12,f13,PySem.W.fnOf "row_of" "Sums.row_of" (ai bL) (ah bL) (ab bL) .none kV13 dc13 pm13 an13 cd13 ct13,f14,PySem.W.fnOf "sum_of_pair" "Sums.sum_of_pair" (ai aW) (ah aW) (ab aW) .none kV14 dc14 pm14 an14 cd14 ct14,f15,PySem.W.fnOf "sum_of_lone" "Sums.sum_of_lone" (ai aX) (ah aX) (ab aX) .none kV15 dc15 pm15 an15 cd15 ct15,f16,PySem.W.fnOf "pair_of" "Sums.pair_of" (ai bB) (ah bB) (ab bB) .none kV16 dc16 pm16 an16 cd16 ct16,f17,PySem.W.fnOf "lone_of" "Sums.lone_of" (ai bC) (ah bC) (ab bC) .none kV17 dc17 pm17 an17 cd17 ct17,f18,PySem.W.fnOf "word" "Halves.word" (ai bP) (ah bP) (ab bP) .none kV18 dc18 pm18 an18 cd18 ct18,f19,PySem.W.fnOf "sum_of_pair" "Halves.sum_of_pair" (ai aL) (ah aL) (ab aL) .none kV19 dc19 pm19 an19 cd19 ct19,f20,PySem.W.fnOf "sum_of_lone" "Halves.sum_of_lone" (ai aM) (ah aM) (ab aM) .none kV20 dc20 pm20 an20 cd20 ct20,f21,PySem.W.fnOf "pair_of" "Halves.pair_of" (ai bj) (ah bj) (ab bj) .none kV21 dc21 pm21 an21 cd21 ct21,f22,PySem.W.fnOf "lone_of" "Halves.lone_of" (ai bp) (ah bp) (ab bp) .none kV22 dc22 pm22 an22 cd22 ct22,f23,PySem.W.fnOf "near" "near" (ai iB) (ah iB) (ab iB) .none kV23 dc23 pm23 an23 cd23 ct23,f24,PySem.W.fnOf "woven" "woven" (ai fZ) (ah fZ) (ab fZ) .none kV24 dc24 pm24 an24 cd24 ct24,f25,PySem.W.fnOf "guesses" "guesses" (ai de) (ah de) (ab de) .none kV25 dc25 pm25 an25 cd25 ct25,f26,PySem.W.fnOf "lifts" "lifts" (ai eW) (ah eW) (ab eW) .none kV26 dc26 pm26 an26 cd26 ct26,f27,PySem.W.fnOf "leans" "leans" (ai eX) (ah eX) (ab eX) .none kV27 dc27 pm27 an27 cd27 ct27,f28,PySem.W.fnOf "word" "Guessed.word" (ai bE) (ah bE) (ab bE) .none kV28 dc28 pm28 an28 cd28 ct28,f29,PySem.W.fnOf "parted" "Guessed.parted" (ai aU) (ah aU) (ab aU) .none kV29 dc29 pm29 an29 cd29 ct29,f30,PySem.W.fnOf "joined" "Guessed.joined" (ai aV) (ah aV) (ab aV) .none kV30 dc30 pm30 an30 cd30 ct30,f31,PySem.W.fnOf "word" "Leaning.word" (ai bD) (ah bD) (ab bD) .none kV31 dc31 pm31 an31 cd31 ct31,f32,PySem.W.fnOf "parted" "Leaning.parted" (ai aZ) (ah aZ) (ab aZ) .none kV32 dc32 pm32 an32 cd32 ct32,f33,PySem.W.fnOf "joined" "Leaning.joined" (ai a_) (ah a_) (ab a_) .none kV33 dc33 pm33 an33 cd33 ct33,f34,PySem.W.fnOf "all_rules" "all_rules" (ai cA) (ah cA) (ab cA) .none kV34 dc34 pm34 an34 cd34 ct34,f35,PySem.W.fnOf "rule_of" "rule_of" (ai dC) (ah dC) (ab dC) .none kV35 dc35 pm35 an35 cd35 ct35,f36,PySem.W.fnOf "can_halve" "can_halve" (ai cz) (ah cz) (ab cz) .none kV36 dc36 pm36 an36 cd36 ct36,f37,PySem.W.fnOf "corners_of" "corners_of" (ai b7) (ah b7) (ab b7) .none kV37 dc37 pm37 an37 cd37 ct37,f38,PySem.W.fnOf "__init__" "Plan.__init__" (ai bz) (ah bz) (ab bz) .none kV38 dc38 pm38 an38 cd38 ct38,f39,PySem.W.fnOf "rule" "Plan.rule" (ai cI) (ah cI) (ab cI) .none kV39 dc39 pm39 an39 cd39 ct39,f40,PySem.W.fnOf "_law_cell" "_law_cell" (ai cF) (ah cF) (ab cF) .none kV40 dc40 pm40 an40 cd40 ct40,f41,PySem.W.fnOf "_law_box" "_law_box" (ai cZ) (ah cZ) (ab cZ) .none kV41 dc41 pm41 an41 cd41 ct41,f42,PySem.W.fnOf "_law_take" "_law_take" (ai cB) (ah cB) (ab cB) .none kV42 dc42 pm42 an42 cd42 ct42,f43,PySem.W.fnOf "_law_number" "_law_number" (ai bK) (ah bK) (ab bK) .none kV43 dc43 pm43 an43 cd43 ct43,f44,PySem.W.fnOf "_law_row" "_law_row" (ai bY) (ah bY) (ab bY) .none kV44 dc44 pm44 an44 cd44 ct44,f45,PySem.W.fnOf "_law_halves_of" "_law_halves_of" (ai aT) (ah aT) (ab aT) .none kV45 dc45 pm45 an45 cd45 ct45,f46,PySem.W.fnOf "_law_even" "_law_even" (ai cE) (ah cE) (ab cE) .none kV46 dc46 pm46 an46 cd46 ct46,f47,PySem.W.fnOf "_law_fits" "_law_fits" (ai cC) (ah cC) (ab cC) .none kV47 dc47 pm47 an47 cd47 ct47,f48,PySem.W.fnOf "_law_small" "_law_small" (ai bR) (ah bR) (ab bR) .none kV48 dc48 pm48 an48 cd48 ct48,f49,PySem.W.fnOf "_law_row_right" "_law_row_right" (ai bh) (ah bh) (ab bh) .none kV49 dc49 pm49 an49 cd49 ct49,f50,PySem.W.fnOf "_law_halves_right" "_law_halves_right" (ai aR) (ah aR) (ab aR) .none kV50 dc50 pm50 an50 cd50 ct50,f51,PySem.W.fnOf "_law_kept_right" "_law_kept_right" (ai aQ) (ah aQ) (ab aQ) .none kV51 dc51 pm51 an51 cd51 ct51,fa,PySem.W.fnOf "law" "law" (ai kd) (ah kd) (ab kd) .none kV52 dc52 pm52 an52 cd52 ct52⟩:=⟨⟨pg_Guessed,hd_Guessed,po_Guessed,sa_Guessed⟩,
  PySem.W.mg_of X G aC_Guessed,
  ⟨mk_Guessed,in_Guessed,kc_Guessed⟩,
  ⟨pg_Halves,hd_Halves,po_Halves,sa_Halves⟩,
  PySem.W.mg_of X G aC_Halves,
  ⟨mk_Halves,in_Halves,kc_Halves⟩,
  ⟨pg_Leaning,hd_Leaning,po_Leaning,sa_Leaning⟩,
  PySem.W.mg_of X G aC_Leaning,
  ⟨mk_Leaning,in_Leaning,kc_Leaning⟩,
  ⟨pg_Plan,hd_Plan,po_Plan,sa_Plan⟩,
  PySem.W.mg_of X G aC_Plan,
  ⟨pg_Sums,hd_Sums,po_Sums,sa_Sums⟩,
  PySem.W.mg_of X G aC_Sums,
  ⟨mk_Sums,in_Sums,kc_Sums⟩,
  n_Plan_chosen,
  n_Plan_corners,
  n_Plan_letters,
  ⟨PySem.W.mg_of X G q_ALONG_PILLARS,fun F=>.inr ⟨_,_,_,lk_ALONG_PILLARS,rfl,rfl,z2,.cons ⟨_,rfl⟩ (.cons ⟨_,rfl⟩ (.nil))⟩⟩,
  ⟨PySem.W.mg_of X G q_ALONG_ROWS,fun F=>.inr ⟨_,_,_,lk_ALONG_ROWS,rfl,rfl,z2,.cons ⟨_,rfl⟩ (.cons ⟨_,rfl⟩ (.nil))⟩⟩,
  ⟨y_bs,y_is,y_ns,y_ss,y_ls,y_ts,y_ds⟩,
  ak (st:=cY) l0 c0 k0,
  (ak (st:=cY) l0 c0 k0).binds (ps:=["thing","low","high"]) fun _ _ _ _ _ _ _ hl=>by obtain⟨_,_,_,rfl⟩:=ln3 hl;rfl,
  PySem.W.mg_of X G a0,
  ak (st:=cy) l1 c1 k1,
  (ak (st:=cy) l1 c1 k1).binds (ps:=["thing"]) fun _ _ _ _ _ _ _ hl=>by obtain⟨_,rfl⟩:=ln1 hl;rfl,
  PySem.W.mg_of X G a1,
  ak (st:=dU) l2 c2 k2,
  (ak (st:=dU) l2 c2 k2).binds (ps:=["thing","least"]) fun _ _ _ _ _ _ _ hl=>by obtain⟨_,_,rfl⟩:=ln2 hl;rfl,
  PySem.W.mg_of X G a2,
  ak (st:=b8) l3 c3 k3,
  (ak (st:=b8) l3 c3 k3).binds (ps:=["sums","differences"]) fun _ _ _ _ _ _ _ hl=>by obtain⟨_,_,rfl⟩:=ln2 hl;rfl,
  PySem.W.mg_of X G a3,
  ak (st:=dD) l4 c4 k4,
  (ak (st:=dD) l4 c4 k4).binds (ps:=["height","width"]) fun _ _ _ _ _ _ _ hl=>by obtain⟨_,_,rfl⟩:=ln2 hl;rfl,
  PySem.W.mg_of X G a4,
  ak (st:=cX) l5 c5 k5,
  (ak (st:=cX) l5 c5 k5).binds (ps:=["row"]) fun _ _ _ _ _ _ _ hl=>by obtain⟨_,rfl⟩:=ln1 hl;rfl,
  PySem.W.mg_of X G a5,
  ak (st:=df) l6 c6 k6,
  (ak (st:=df) l6 c6 k6).binds (ps:=["row"]) fun _ _ _ _ _ _ _ hl=>by obtain⟨_,rfl⟩:=ln1 hl;rfl,
  PySem.W.mg_of X G a6,
  ak (st:=cG) l7 c7 k7,
  (ak (st:=cG) l7 c7 k7).binds (ps:=["self"]) fun _ _ _ _ _ _ _ hl=>by obtain⟨_,rfl⟩:=ln1 hl;rfl,
  ak (st:=bO) l8 c8 k8,
  (ak (st:=bO) l8 c8 k8).binds (ps:=["self","row"]) fun _ _ _ _ _ _ _ hl=>by obtain⟨_,_,rfl⟩:=ln2 hl;rfl,
  ak (st:=cH) l9 c9 k9,
  (ak (st:=cH) l9 c9 k9).binds (ps:=["self","sums","differences"]) fun _ _ _ _ _ _ _ hl=>by obtain⟨_,_,_,rfl⟩:=ln3 hl;rfl,
  ak (st:=bM) l10 c10 k10,
  (ak (st:=bM) l10 c10 k10).binds (ps:=["self","row"]) fun _ _ _ _ _ _ _ hl=>by obtain⟨_,_,rfl⟩:=ln2 hl;rfl,
  ak (st:=bN) l11 c11 k11,
  (ak (st:=bN) l11 c11 k11).binds (ps:=["self","sums","differences"]) fun _ _ _ _ _ _ _ hl=>by obtain⟨_,_,_,rfl⟩:=ln3 hl;rfl,
  ak (st:=bw) l12 c12 k12,
  (ak (st:=bw) l12 c12 k12).binds (ps:=["self","row"]) fun _ _ _ _ _ _ _ hl=>by obtain⟨_,_,rfl⟩:=ln2 hl;rfl,
  ak (st:=bL) l13 c13 k13,
  (ak (st:=bL) l13 c13 k13).binds (ps:=["self","sums","gaps"]) fun _ _ _ _ _ _ _ hl=>by obtain⟨_,_,_,rfl⟩:=ln3 hl;rfl,
  ak (st:=aW) l14 c14 k14,
  (ak (st:=aW) l14 c14 k14).binds (ps:=["self","first","second"]) fun _ _ _ _ _ _ _ hl=>by obtain⟨_,_,_,rfl⟩:=ln3 hl;rfl,
  ak (st:=aX) l15 c15 k15,
  (ak (st:=aX) l15 c15 k15).binds (ps:=["self","number"]) fun _ _ _ _ _ _ _ hl=>by obtain⟨_,_,rfl⟩:=ln2 hl;rfl,
  ak (st:=bB) l16 c16 k16,
  (ak (st:=bB) l16 c16 k16).binds (ps:=["self","total","gap"]) fun _ _ _ _ _ _ _ hl=>by obtain⟨_,_,_,rfl⟩:=ln3 hl;rfl,
  ak (st:=bC) l17 c17 k17,
  (ak (st:=bC) l17 c17 k17).binds (ps:=["self","total"]) fun _ _ _ _ _ _ _ hl=>by obtain⟨_,_,rfl⟩:=ln2 hl;rfl,
  ak (st:=bP) l18 c18 k18,
  (ak (st:=bP) l18 c18 k18).binds (ps:=["self"]) fun _ _ _ _ _ _ _ hl=>by obtain⟨_,rfl⟩:=ln1 hl;rfl,
  ak (st:=aL) l19 c19 k19,
  (ak (st:=aL) l19 c19 k19).binds (ps:=["self","first","second"]) fun _ _ _ _ _ _ _ hl=>by obtain⟨_,_,_,rfl⟩:=ln3 hl;rfl,
  ak (st:=aM) l20 c20 k20,
  (ak (st:=aM) l20 c20 k20).binds (ps:=["self","number"]) fun _ _ _ _ _ _ _ hl=>by obtain⟨_,_,rfl⟩:=ln2 hl;rfl,
  ak (st:=bj) l21 c21 k21,
  (ak (st:=bj) l21 c21 k21).binds (ps:=["self","total","gap"]) fun _ _ _ _ _ _ _ hl=>by obtain⟨_,_,_,rfl⟩:=ln3 hl;rfl,
  ak (st:=bp) l22 c22 k22,
  (ak (st:=bp) l22 c22 k22).binds (ps:=["self","total"]) fun _ _ _ _ _ _ _ hl=>by obtain⟨_,_,rfl⟩:=ln2 hl;rfl,
  ak (st:=iB) l23 c23 k23,
  (ak (st:=iB) l23 c23 k23).binds (ps:=["numbers","at"]) fun _ _ _ _ _ _ _ hl=>by obtain⟨_,_,rfl⟩:=ln2 hl;rfl,
  PySem.W.mg_of X G a23,
  ak (st:=fZ) l24 c24 k24,
  (ak (st:=fZ) l24 c24 k24).binds (ps:=["firsts","seconds"]) fun _ _ _ _ _ _ _ hl=>by obtain⟨_,_,rfl⟩:=ln2 hl;rfl,
  PySem.W.mg_of X G a24,
  ak (st:=de) l25 c25 k25,
  (ak (st:=de) l25 c25 k25).binds (ps:=["firsts","many"]) fun _ _ _ _ _ _ _ hl=>by obtain⟨_,_,rfl⟩:=ln2 hl;rfl,
  PySem.W.mg_of X G a25,
  ak (st:=eW) l26 c26 k26,
  (ak (st:=eW) l26 c26 k26).binds (ps:=["differences","many"]) fun _ _ _ _ _ _ _ hl=>by obtain⟨_,_,rfl⟩:=ln2 hl;rfl,
  PySem.W.mg_of X G a26,
  ak (st:=eX) l27 c27 k27,
  (ak (st:=eX) l27 c27 k27).binds (ps:=["sums","many"]) fun _ _ _ _ _ _ _ hl=>by obtain⟨_,_,rfl⟩:=ln2 hl;rfl,
  PySem.W.mg_of X G a27,
  ak (st:=bE) l28 c28 k28,
  (ak (st:=bE) l28 c28 k28).binds (ps:=["self"]) fun _ _ _ _ _ _ _ hl=>by obtain⟨_,rfl⟩:=ln1 hl;rfl,
  ak (st:=aU) l29 c29 k29,
  (ak (st:=aU) l29 c29 k29).binds (ps:=["self","row"]) fun _ _ _ _ _ _ _ hl=>by obtain⟨_,_,rfl⟩:=ln2 hl;rfl,
  ak (st:=aV) l30 c30 k30,
  (ak (st:=aV) l30 c30 k30).binds (ps:=["self","sums","differences"]) fun _ _ _ _ _ _ _ hl=>by obtain⟨_,_,_,rfl⟩:=ln3 hl;rfl,
  ak (st:=bD) l31 c31 k31,
  (ak (st:=bD) l31 c31 k31).binds (ps:=["self"]) fun _ _ _ _ _ _ _ hl=>by obtain⟨_,rfl⟩:=ln1 hl;rfl,
  ak (st:=aZ) l32 c32 k32,
  (ak (st:=aZ) l32 c32 k32).binds (ps:=["self","row"]) fun _ _ _ _ _ _ _ hl=>by obtain⟨_,_,rfl⟩:=ln2 hl;rfl,
  ak (st:=a_) l33 c33 k33,
  (ak (st:=a_) l33 c33 k33).binds (ps:=["self","sums","differences"]) fun _ _ _ _ _ _ _ hl=>by obtain⟨_,_,_,rfl⟩:=ln3 hl;rfl,
  ak (st:=cA) l34 c34 k34,
  (ak (st:=cA) l34 c34 k34).binds (ps:=[]) fun _ _ _ _ _ _ _ hl=>by obtain rfl:=ln0 hl;rfl,
  PySem.W.mg_of X G a34,
  ak (st:=dC) l35 c35 k35,
  (ak (st:=dC) l35 c35 k35).binds (ps:=["word"]) fun _ _ _ _ _ _ _ hl=>by obtain⟨_,rfl⟩:=ln1 hl;rfl,
  PySem.W.mg_of X G a35,
  ak (st:=cz) l36 c36 k36,
  (ak (st:=cz) l36 c36 k36).binds (ps:=["letter","height","width"]) fun _ _ _ _ _ _ _ hl=>by obtain⟨_,_,_,rfl⟩:=ln3 hl;rfl,
  PySem.W.mg_of X G a36,
  ak (st:=b7) l37 c37 k37,
  (ak (st:=b7) l37 c37 k37).binds (ps:=["height","width","way"]) fun _ _ _ _ _ _ _ hl=>by obtain⟨_,_,_,rfl⟩:=ln3 hl;rfl,
  PySem.W.mg_of X G a37,
  ak (st:=bz) l38 c38 k38,
  (ak (st:=bz) l38 c38 k38).binds (ps:=["self","height","width","word","way"]) fun _ _ _ _ _ _ _ hl=>by obtain⟨_,_,_,_,_,rfl⟩:=ln5 hl;rfl,
  ak (st:=cI) l39 c39 k39,
  (ak (st:=cI) l39 c39 k39).binds (ps:=["self"]) fun _ _ _ _ _ _ _ hl=>by obtain⟨_,rfl⟩:=ln1 hl;rfl,
  ak (st:=cF) l40 c40 k40,
  (ak (st:=cF) l40 c40 k40).binds (ps:=["_law_script","_law_k"]) fun _ _ _ _ _ _ _ hl=>by obtain⟨_,_,rfl⟩:=ln2 hl;rfl,
  PySem.W.mg_of X G a40,
  ak (st:=cZ) l41 c41 k41,
  (ak (st:=cZ) l41 c41 k41).binds (ps:=["_law_cell_here"]) fun _ _ _ _ _ _ _ hl=>by obtain⟨_,rfl⟩:=ln1 hl;rfl,
  PySem.W.mg_of X G a41,
  ak (st:=cB) l42 c42 k42,
  (ak (st:=cB) l42 c42 k42).binds (ps:=["_law_box_here","_law_many"]) fun _ _ _ _ _ _ _ hl=>by obtain⟨_,_,rfl⟩:=ln2 hl;rfl,
  PySem.W.mg_of X G a42,
  ak (st:=bK) l43 c43 k43,
  (ak (st:=bK) l43 c43 k43).binds (ps:=["_law_box_here"]) fun _ _ _ _ _ _ _ hl=>by obtain⟨_,rfl⟩:=ln1 hl;rfl,
  PySem.W.mg_of X G a43,
  ak (st:=bY) l44 c44 k44,
  (ak (st:=bY) l44 c44 k44).binds (ps:=["_law_box_here","_law_least"]) fun _ _ _ _ _ _ _ hl=>by obtain⟨_,_,rfl⟩:=ln2 hl;rfl,
  PySem.W.mg_of X G a44,
  ak (st:=aT) l45 c45 k45,
  (ak (st:=aT) l45 c45 k45).binds (ps:=["_law_box_here"]) fun _ _ _ _ _ _ _ hl=>by obtain⟨_,rfl⟩:=ln1 hl;rfl,
  PySem.W.mg_of X G a45,
  ak (st:=cE) l46 c46 k46,
  (ak (st:=cE) l46 c46 k46).binds (ps:=["_law_sums","_law_differences"]) fun _ _ _ _ _ _ _ hl=>by obtain⟨_,_,rfl⟩:=ln2 hl;rfl,
  PySem.W.mg_of X G a46,
  ak (st:=cC) l47 c47 k47,
  (ak (st:=cC) l47 c47 k47).binds (ps:=["_law_number_here"]) fun _ _ _ _ _ _ _ hl=>by obtain⟨_,rfl⟩:=ln1 hl;rfl,
  PySem.W.mg_of X G a47,
  ak (st:=bR) l48 c48 k48,
  (ak (st:=bR) l48 c48 k48).binds (ps:=["_law_row_here"]) fun _ _ _ _ _ _ _ hl=>by obtain⟨_,rfl⟩:=ln1 hl;rfl,
  PySem.W.mg_of X G a48,
  ak (st:=bh) l49 c49 k49,
  (ak (st:=bh) l49 c49 k49).binds (ps:=["_law_rule","_law_row_here"]) fun _ _ _ _ _ _ _ hl=>by obtain⟨_,_,rfl⟩:=ln2 hl;rfl,
  PySem.W.mg_of X G a49,
  ak (st:=aR) l50 c50 k50,
  (ak (st:=aR) l50 c50 k50).binds (ps:=["_law_rule","_law_sums","_law_differences"]) fun _ _ _ _ _ _ _ hl=>by obtain⟨_,_,_,rfl⟩:=ln3 hl;rfl,
  PySem.W.mg_of X G a50,
  ak (st:=aQ) l51 c51 k51,
  (ak (st:=aQ) l51 c51 k51).binds (ps:=["_law_box_here","_law_word","_law_row_here"]) fun _ _ _ _ _ _ _ hl=>by obtain⟨_,_,_,rfl⟩:=ln3 hl;rfl,
  PySem.W.mg_of X G a51,
  ak (st:=kd) l52 c52 k52,
  (ak (st:=kd) l52 c52 k52).binds (ps:=["_law_script"]) fun _ _ _ _ _ _ _ hl=>by obtain⟨_,rfl⟩:=ln1 hl;rfl,
  PySem.W.mg_of X G a52,
  ⟨mk_Plan,a38,i38,kc_Plan⟩,
  ⟨a28,i28,k28⟩,
  ⟨a29,i29,k29⟩,
  ⟨a30,i30,k30⟩,
  ⟨a8,i8,k8⟩,
  ⟨a9,i9,k9⟩,
  ⟨a12,i12,k12⟩,
  ⟨a13,i13,k13⟩,
  ⟨a14,i14,k14⟩,
  ⟨a15,i15,k15⟩,
  ⟨a16,i16,k16⟩,
  ⟨a17,i17,k17⟩,
  ⟨a18,i18,k18⟩,
  ⟨a19,i19,k19⟩,
  ⟨a20,i20,k20⟩,
  ⟨a21,i21,k21⟩,
  ⟨a22,i22,k22⟩,
  ⟨e_Halves_halves,i8,k8⟩,
  ⟨e_Halves_back,i9,k9⟩,
  ⟨a10,i10,k10⟩,
  ⟨a11,i11,k11⟩,
  ⟨e_Halves_sums_of,i12,k12⟩,
  ⟨e_Halves_row_of,i13,k13⟩,
  ⟨a31,i31,k31⟩,
  ⟨a32,i32,k32⟩,
  ⟨a33,i33,k33⟩,
  ⟨e_Leaning_sum_of_pair,i19,k19⟩,
  ⟨e_Leaning_sum_of_lone,i20,k20⟩,
  ⟨e_Leaning_pair_of,i21,k21⟩,
  ⟨e_Leaning_lone_of,i22,k22⟩,
  ⟨e_Leaning_halves,i8,k8⟩,
  ⟨e_Leaning_back,i9,k9⟩,
  ⟨e_Leaning_sums_of,i12,k12⟩,
  ⟨e_Leaning_row_of,i13,k13⟩,
  ⟨a39,i39,k39⟩,
  ⟨a7,i7,k7⟩,
  ⟨e_Sums_halves,i8,k8⟩,
  ⟨e_Sums_back,i9,k9⟩,
  ⟨e_Sums_parted,i10,k10⟩,
  ⟨e_Sums_joined,i11,k11⟩,
  ⟨e_Sums_sums_of,i12,k12⟩,
  ⟨e_Sums_row_of,i13,k13⟩,
  ⟨e_Sums_sum_of_pair,i14,k14⟩,
  ⟨e_Sums_sum_of_lone,i15,k15⟩,
  ⟨e_Sums_pair_of,i16,k16⟩,
  ⟨e_Sums_lone_of,i17,k17⟩,
  ⟨_,PySem.W.mg_of X G q_MOST_NUMBER⟩,
  ⟨_,PySem.W.mg_of X G q_MOST_PLACES⟩,
  ⟨_,PySem.W.mg_of X G q_MOST_SIDE⟩,
  PySem.W.mg_none_of X G z_abs,
  PySem.W.mg_none_of X G z_all,
  PySem.W.mg_none_of X G z_bool,
  PySem.W.mg_none_of X G z_enumerate,
  PySem.W.mg_none_of X G z_int,
  PySem.W.mg_none_of X G z_isinstance,
  PySem.W.mg_none_of X G z_len,
  PySem.W.mg_none_of X G z_list,
  PySem.W.mg_none_of X G z_max,
  PySem.W.mg_none_of X G z_min,
  PySem.W.mg_none_of X G z_range,
  PySem.W.mg_none_of X G z_repr,
  PySem.W.mg_none_of X G z_str,
  PySem.W.mg_none_of X G z_tuple,
  PySem.W.mg_none_of X G z_zip,
  ⟨y_bb,y_bi,y_bl,y_bt,y_ib,y_ii,y_il,y_it,y_nb,y_ni,y_nl,y_nt,y_sb,y_si,y_sl,y_st,y_lb,y_li,y_ll,y_lt,y_tb,y_ti,y_tl,y_tt,y_db,y_di,y_dl,y_dt⟩⟩
 exact⟨_,fun s v=>.of_eq rfl,fun base _ _=>Fw T⟩
theorem walk {l:PySem.W.OpenLaw} {q:Program} {loose:List Str} {XP:(Str→Option Value)→Heap→Prop} {YP:World→Heap→Prop} {d:DefRec} {K:Params→PySem.W.Frag} (hn:l.most=some 63) (hdf:d.params.defaults=[])
  (hY:∀ (w:World) (h:Heap),YP w h→(K w.params).In h)
  (F:∀ (w:World) (mg:Str→Option Value) (fa:Addr) (h:Heap),(K w.params).In h→h.Ns mainGlobals mg→mg d.name=some (.ref fa)→
   ∃ fd:FuncData,(∀ (s:Shared) (u:Value),BindsTo s fd ⟨[u],[]⟩ [("_law_script",u)])∧∀ base:Heap,(K w.params).In base→base.Ns mainGlobals mg→aY l.prog w (K w.params) mg base CX0 7 fa fd ["_law_script"] (tE (K w.params))) :
  PySem.W.WalkO q loose XP YP l.row.toRowW d [] (fun f vs=>PySem.call f vs):=
 L2.Cf (n:=63) (k:=7) (x:="_law_script") (CX:=fun _=>CX0) (sp:=fun w=>tE (K w.params)) hn (by decide) hdf ⟨rfl,by decide,by decide,rfl⟩ hY F (fun _ _ a ns hl _ hS=>⟨a,ns,rfl,hS,hl,fun _=>rfl⟩) fun _ _ _ _ _ z=>z
end K16
namespace PySem.W.Fast
theorem tw1855202551557892081:True:=trivial
theorem tw3452425453909640177:True:=trivial
theorem tw5231310210003089393:True:=trivial
theorem tw12830447591331325969:True:=trivial
theorem tw3236993294173878897:True:=trivial
theorem tw14657056866689091217:True:=trivial
theorem tw17329268290565374609:True:=trivial
theorem tw3218672847965104337:True:=trivial
theorem tw3187000773406686961:True:=trivial
theorem tw8630346009719964017:True:=trivial
theorem tw12272312594079851921:True:=trivial
theorem tw8478980563780326321:True:=trivial
theorem tw15642643236016481809:True:=trivial
theorem tw16885311258003252337:True:=trivial
theorem tw9945372680396816209:True:=trivial
theorem tw13136707550441059440:True:=trivial
theorem tw10300310212594072304:True:=trivial
theorem tw1244435981847534448:True:=trivial
theorem tw15025996689786357808:True:=trivial
theorem tw4778783368523145296:True:=trivial
theorem tw7119894927770516080:True:=trivial
theorem tw9663113242425247344:True:=trivial
theorem tw611253503921761456:True:=trivial
theorem tw3173013758505423088:True:=trivial
theorem tw15536546740765710096:True:=trivial
theorem tw14843924286776527664:True:=trivial
theorem tw13458449441274366800:True:=trivial
theorem tw9235709796355884400:True:=trivial
theorem tw15760824620890404208:True:=trivial
theorem tw2639547881682248080:True:=trivial
theorem tw16071295882596688272:True:=trivial
theorem tw7680899359916399120:True:=trivial
theorem tw7176220464721076784:True:=trivial
theorem tw16315052030533679696:True:=trivial
theorem tw15721130812520299619:True:=trivial
theorem tw1077652779997667587:True:=trivial
theorem tw805168613146244899:True:=trivial
theorem tw5907848717586207523:True:=trivial
theorem tw13331806453366862851:True:=trivial
theorem tw9034852369906965027:True:=trivial
theorem tw12856832618728892963:True:=trivial
theorem tw18166743543780990659:True:=trivial
theorem tw6041495738640280323:True:=trivial
theorem tw8058385299946461955:True:=trivial
theorem tw12360440898774398243:True:=trivial
theorem tw10804858130382256579:True:=trivial
theorem tw15213894795726251523:True:=trivial
theorem tw18323999193658373635:True:=trivial
theorem tw5112249648074293698:True:=trivial
theorem tw11346645203228314594:True:=trivial
theorem tw3236058398767272930:True:=trivial
theorem tw10958674392281397282:True:=trivial
theorem tw4496629472900158050:True:=trivial
theorem tw8692740318069812834:True:=trivial
theorem tw9121266961520485986:True:=trivial
theorem tw14991267530031634626:True:=trivial
theorem tw16620116191832875746:True:=trivial
theorem tw15285838419964667650:True:=trivial
theorem tw11726407304261349698:True:=trivial
theorem tw6649135432553583938:True:=trivial
theorem tw10271827139148976482:True:=trivial
theorem tw9212140122946974178:True:=trivial
theorem tw9949810360268201474:True:=trivial
theorem tw1199025194555682306:True:=trivial
theorem tw17527946480575869634:True:=trivial
theorem tw17229636981366422914:True:=trivial
theorem tw11478603378406072685:True:=trivial
theorem tw9875572614066428269:True:=trivial
theorem tw910663977465167245:True:=trivial
theorem tw7588040084250723821:True:=trivial
theorem tw13415532126228170221:True:=trivial
theorem tw9893880959491952141:True:=trivial
theorem tw12977224776678485069:True:=trivial
theorem tw15383483796176557:True:=trivial
theorem tw5214439914980852429:True:=trivial
theorem tw16667632420510523693:True:=trivial
theorem tw6430802129769731373:True:=trivial
theorem tw16609743953138323309:True:=trivial
theorem tw2407156199275250125:True:=trivial
theorem tw7229179706840802285:True:=trivial
theorem tw18131427299534408877:True:=trivial
theorem tw9253191048015526061:True:=trivial
theorem tw16091672154604183757:True:=trivial
theorem tw14911806089350525068:True:=trivial
theorem tw15235807421117985036:True:=trivial
theorem tw17451115653689509132:True:=trivial
theorem tw3227301292717703500:True:=trivial
theorem tw8714743776550444908:True:=trivial
theorem tw15770678433489202220:True:=trivial
theorem tw16269591269152238668:True:=trivial
theorem tw11616245999971849836:True:=trivial
theorem tw12053790444978416236:True:=trivial
theorem tw9289007059360389356:True:=trivial
theorem tw15574642931034171148:True:=trivial
theorem tw1571487319433796364:True:=trivial
theorem tw3435994979331740460:True:=trivial
theorem tw5395065784456801100:True:=trivial
theorem tw16816268539126221196:True:=trivial
theorem tw3043541293457574412:True:=trivial
theorem tw7218838439710267916:True:=trivial
theorem tw4417032187675437644:True:=trivial
theorem tw16517950720040617548:True:=trivial
theorem tw8850219015243682239:True:=trivial
theorem tw8390296592410817119:True:=trivial
theorem tw7082291084073113183:True:=trivial
theorem tw471752584537310815:True:=trivial
theorem tw1478483076862182559:True:=trivial
theorem tw1883652113869893791:True:=trivial
theorem tw16983822040672753375:True:=trivial
theorem tw273226756593102111:True:=trivial
theorem tw205899933830970687:True:=trivial
theorem tw5476220728041886591:True:=trivial
theorem tw12840434582507036543:True:=trivial
theorem tw3678873935225280447:True:=trivial
theorem tw16815645650610958815:True:=trivial
theorem tw6941022960358373407:True:=trivial
theorem tw5407389441206042655:True:=trivial
theorem tw8689648807922075743:True:=trivial
theorem tw15343788188118834847:True:=trivial
theorem tw15765788239976620735:True:=trivial
theorem tw8867083253347583679:True:=trivial
theorem tw13079864884284139743:True:=trivial
theorem tw5448994989163549919:True:=trivial
theorem tw308812477508328671:True:=trivial
theorem tw17756819226933166911:True:=trivial
theorem tw2609446865537308031:True:=trivial
theorem tw10471676123857042782:True:=trivial
theorem tw1053641800660791646:True:=trivial
theorem tw14291199153855975774:True:=trivial
theorem tw1371559346568850814:True:=trivial
theorem tw4067926206769899998:True:=trivial
theorem tw8116606400584062430:True:=trivial
theorem tw9258577561899817470:True:=trivial
theorem tw8494547051969534014:True:=trivial
theorem tw512019716499522686:True:=trivial
theorem tw16390865164157955774:True:=trivial
theorem tw4740373821571956414:True:=trivial
theorem tw17533117447044648638:True:=trivial
theorem tw10814740492576824606:True:=trivial
theorem tw15721626342957425470:True:=trivial
theorem tw9044649764853970750:True:=trivial
theorem tw692643037722575710:True:=trivial
theorem tw5666706169371157918:True:=trivial
theorem tw17919058003074806750:True:=trivial
theorem tw442451819194654718:True:=trivial
theorem tw9998656653255717886:True:=trivial
theorem tw18081826032467264542:True:=trivial
theorem tw18295746366429979230:True:=trivial
theorem tw210619869425801854:True:=trivial
theorem tw7905196692483420798:True:=trivial
theorem tw7255758325724145822:True:=trivial
theorem tw3977732193549128361:True:=trivial
theorem tw7504241034561556745:True:=trivial
theorem tw8354620063740119881:True:=trivial
theorem tw15451593053971620713:True:=trivial
theorem tw2864269070437214057:True:=trivial
theorem tw14288276968854101417:True:=trivial
theorem tw10023634073857373609:True:=trivial
theorem tw12139112581641772041:True:=trivial
theorem tw6692611968471160873:True:=trivial
theorem tw7261079587968053833:True:=trivial
theorem tw12879731276996854377:True:=trivial
theorem tw14527358474932668201:True:=trivial
theorem tw11265096154724499817:True:=trivial
theorem tw11093475644648003048:True:=trivial
theorem tw11243627856093149672:True:=trivial
theorem tw7043776441781725192:True:=trivial
theorem tw11229987196715569928:True:=trivial
theorem tw8855897974238000904:True:=trivial
theorem tw12445566618591334824:True:=trivial
theorem tw16930168952087749160:True:=trivial
theorem tw8685257547352181320:True:=trivial
theorem tw13409016383259695240:True:=trivial
theorem tw4508679115662851784:True:=trivial
theorem tw2194549102957022920:True:=trivial
theorem tw16789025720496956680:True:=trivial
theorem tw8961314733257061224:True:=trivial
theorem tw9808662078999392104:True:=trivial
theorem tw15756684249056364987:True:=trivial
theorem tw18098266111538965467:True:=trivial
theorem tw8736995141358313467:True:=trivial
theorem tw171372543420390971:True:=trivial
theorem tw3368506425677940315:True:=trivial
theorem tw17923371142433904763:True:=trivial
theorem tw13979987652722598043:True:=trivial
theorem tw12895312989842334875:True:=trivial
theorem tw10197370411128812731:True:=trivial
theorem tw15085991052590835003:True:=trivial
theorem tw9402552220129674587:True:=trivial
theorem tw8383147334784931163:True:=trivial
theorem tw10935955862884668283:True:=trivial
theorem tw1037246639629803387:True:=trivial
theorem tw2482690167613687707:True:=trivial
theorem tw10476019027649903547:True:=trivial
theorem tw13224034615463941595:True:=trivial
theorem tw15638528463124397563:True:=trivial
theorem tw12885854527540692667:True:=trivial
theorem tw16282056378908456763:True:=trivial
theorem tw8079523010937441115:True:=trivial
theorem tw136813756811799674:True:=trivial
theorem tw3194121813728342682:True:=trivial
theorem tw7815735574510846170:True:=trivial
theorem tw9437388866925153690:True:=trivial
theorem tw16232360443171191226:True:=trivial
theorem tw3292600363419466298:True:=trivial
theorem tw6135232636309337690:True:=trivial
theorem tw17162807360179710554:True:=trivial
theorem tw7932835306908847738:True:=trivial
theorem tw15758319410297791642:True:=trivial
theorem tw6716371265630431418:True:=trivial
theorem tw13972167017930077946:True:=trivial
theorem tw17525359845084682010:True:=trivial
theorem tw10972873441579005274:True:=trivial
theorem tw6456848526125183930:True:=trivial
theorem tw11411224628301588954:True:=trivial
theorem tw14846601235507325434:True:=trivial
theorem tw1085726251849420229:True:=trivial
theorem tw10377826334894084581:True:=trivial
theorem tw9986876297215652869:True:=trivial
theorem tw11174831259113037381:True:=trivial
theorem tw7210507096711342661:True:=trivial
theorem tw5782727405083667077:True:=trivial
theorem tw411499169072086213:True:=trivial
theorem tw15336929970275512549:True:=trivial
theorem tw13775712647671842021:True:=trivial
theorem tw4731105980655332677:True:=trivial
theorem tw16113419212808794437:True:=trivial
theorem tw2228977419567186309:True:=trivial
theorem tw4932847585564994053:True:=trivial
theorem tw12176938585957174341:True:=trivial
theorem tw3116511021959794789:True:=trivial
theorem tw12472704017436222597:True:=trivial
theorem tw14407475034383474821:True:=trivial
theorem tw4672048163701628037:True:=trivial
theorem tw9992519098988376325:True:=trivial
theorem tw7236264827085796645:True:=trivial
theorem tw7225986487730487141:True:=trivial
theorem tw1452306833178061701:True:=trivial
theorem tw4077898493165240100:True:=trivial
theorem tw17522432006575704900:True:=trivial
theorem tw4960250101714548548:True:=trivial
theorem tw12644984551815138660:True:=trivial
theorem tw17919380237607639428:True:=trivial
theorem tw5951130973453712324:True:=trivial
theorem tw6324372770015989732:True:=trivial
theorem tw10085762024529146852:True:=trivial
theorem tw3328229697288183780:True:=trivial
theorem tw17096203648228824580:True:=trivial
theorem tw7663241407549702276:True:=trivial
theorem tw5712033226033581188:True:=trivial
theorem tw7573428403540869284:True:=trivial
theorem tw691471625478320836:True:=trivial
theorem tw9445532061261704932:True:=trivial
theorem tw5331111922461786372:True:=trivial
theorem tw9218851924727777188:True:=trivial
theorem tw17175456977479049124:True:=trivial
theorem tw6623637432467795428:True:=trivial
theorem tw11137312476430537732:True:=trivial
theorem tw926407061512914948:True:=trivial
theorem tw4638240110623356996:True:=trivial
theorem tw16832075754294384919:True:=trivial
theorem tw2907685419920976151:True:=trivial
theorem tw11358960704480015671:True:=trivial
theorem tw11930863429353206103:True:=trivial
theorem tw16366187781358864727:True:=trivial
theorem tw10077366740708863863:True:=trivial
theorem tw8240321231443793815:True:=trivial
theorem tw10786521828933700535:True:=trivial
theorem tw7274815598802214359:True:=trivial
theorem tw6837769755387012567:True:=trivial
theorem tw7911589920515287095:True:=trivial
theorem tw1814517359097708183:True:=trivial
theorem tw1901562885659290263:True:=trivial
theorem tw17393650612330509975:True:=trivial
theorem tw10681234096719551703:True:=trivial
theorem tw4811914312061172311:True:=trivial
theorem tw15183094221686755511:True:=trivial
theorem tw3154298575121823447:True:=trivial
theorem tw7761934925377669782:True:=trivial
theorem tw2165891094901308086:True:=trivial
theorem tw17423630449288435382:True:=trivial
theorem tw3546900700112882358:True:=trivial
theorem tw6002835701607562518:True:=trivial
theorem tw17786249846300008278:True:=trivial
theorem tw5418048405420936054:True:=trivial
theorem tw2641746288479629750:True:=trivial
theorem tw1957320584754014646:True:=trivial
theorem tw6046281978512757750:True:=trivial
theorem tw15488474329167766102:True:=trivial
theorem tw4704887813101179638:True:=trivial
theorem tw12681511980304740118:True:=trivial
theorem tw13696614911532891638:True:=trivial
theorem tw5074359597313703446:True:=trivial
theorem tw17336611419132901430:True:=trivial
theorem tw988813600652375126:True:=trivial
theorem tw12085306605520484769:True:=trivial
theorem tw9243570966629334497:True:=trivial
theorem tw15649202413986378753:True:=trivial
theorem tw7696065320257422337:True:=trivial
theorem tw7274226254449183329:True:=trivial
theorem tw5640593510290699905:True:=trivial
theorem tw8652948147237777569:True:=trivial
theorem tw18068116773348694241:True:=trivial
theorem tw2123510148483330849:True:=trivial
theorem tw17304997081372843809:True:=trivial
theorem tw17599922433685434689:True:=trivial
theorem tw12742803006812170145:True:=trivial
theorem tw14335433188396286913:True:=trivial
theorem tw14870446431165694497:True:=trivial
theorem tw8108742256725073985:True:=trivial
theorem tw15178978507618337921:True:=trivial
theorem tw9800424529005786849:True:=trivial
theorem tw3165363662547233505:True:=trivial
theorem tw8870593421059337473:True:=trivial
theorem tw1597256377981739841:True:=trivial
theorem tw2965107808343394145:True:=trivial
theorem tw12915200915580157056:True:=trivial
theorem tw4369919713838272672:True:=trivial
theorem tw6285014460570113728:True:=trivial
theorem tw1652386037517940480:True:=trivial
theorem tw15843115753373864224:True:=trivial
theorem tw3891030935828543776:True:=trivial
theorem tw12934925198500420896:True:=trivial
theorem tw1225932701543487360:True:=trivial
theorem tw1155406661385391712:True:=trivial
theorem tw9022268037421568224:True:=trivial
theorem tw2868474703512954112:True:=trivial
theorem tw18326814171333250848:True:=trivial
theorem tw11258842944559220096:True:=trivial
theorem tw4381611051637095392:True:=trivial
theorem tw5474651311826807808:True:=trivial
theorem tw3865893293175776256:True:=trivial
theorem tw12562420616623171104:True:=trivial
theorem tw10186998471995871808:True:=trivial
theorem tw5435691970359270496:True:=trivial
theorem tw11586503369611040851:True:=trivial
theorem tw17774763643794818675:True:=trivial
theorem tw13976903126535515763:True:=trivial
theorem tw13965153524515269267:True:=trivial
theorem tw1083397597469271731:True:=trivial
theorem tw11969422084388254387:True:=trivial
theorem tw14694456929411158707:True:=trivial
theorem tw3529013988527543507:True:=trivial
theorem tw8870770539504284883:True:=trivial
theorem tw17800038195685639411:True:=trivial
theorem tw2572145715486926643:True:=trivial
theorem tw12382377978164117491:True:=trivial
theorem tw10500367724773876275:True:=trivial
theorem tw819158922235488851:True:=trivial
theorem tw14746624567788136019:True:=trivial
theorem tw7699972387061805171:True:=trivial
theorem tw18110709802858777747:True:=trivial
theorem tw5466970425991614195:True:=trivial
theorem tw1185344247276092147:True:=trivial
theorem tw9361788281783597811:True:=trivial
theorem tw5811474469373167379:True:=trivial
theorem tw11408422615565996915:True:=trivial
theorem tw2318340958103065491:True:=trivial
theorem tw17812351288430482323:True:=trivial
theorem tw17267393696573053843:True:=trivial
theorem tw3015784770290270675:True:=trivial
theorem tw13323449819671509459:True:=trivial
theorem tw1284667064807295475:True:=trivial
theorem tw16974130824025338387:True:=trivial
theorem tw5625349495850918930:True:=trivial
theorem tw17170392420301381234:True:=trivial
theorem tw15549534395787278642:True:=trivial
theorem tw15946967766041356658:True:=trivial
theorem tw3525042118629265778:True:=trivial
theorem tw17907906661390101394:True:=trivial
theorem tw11593935359472687058:True:=trivial
theorem tw14047703739961312754:True:=trivial
theorem tw5656267748085966354:True:=trivial
theorem tw9861310558173351986:True:=trivial
theorem tw13807742984987765874:True:=trivial
theorem tw8965337136283775634:True:=trivial
theorem tw15176168997574792850:True:=trivial
theorem tw12756823605258183346:True:=trivial
theorem tw7140786048337140978:True:=trivial
theorem tw4220426580027170066:True:=trivial
theorem tw3217181757422269266:True:=trivial
theorem tw2575899486257924978:True:=trivial
theorem tw10227721258361314706:True:=trivial
theorem tw17800286862436314546:True:=trivial
theorem tw10310440757214055858:True:=trivial
theorem tw12881435907916147037:True:=trivial
theorem tw1594507511299282269:True:=trivial
theorem tw10996877824605050237:True:=trivial
theorem tw9815067377826494429:True:=trivial
theorem tw6248057942482793437:True:=trivial
theorem tw15378032241020016157:True:=trivial
theorem tw12616808735377053821:True:=trivial
theorem tw15711842124962972317:True:=trivial
theorem tw791054290235823837:True:=trivial
theorem tw15727147990816804157:True:=trivial
theorem tw15036287927945705917:True:=trivial
theorem tw15539625960792652861:True:=trivial
theorem tw6959202820389601917:True:=trivial
theorem tw9304179928590995613:True:=trivial
theorem tw5426244326375215261:True:=trivial
theorem tw6011381546486895900:True:=trivial
theorem tw16717511539912859932:True:=trivial
theorem tw6622516529941632284:True:=trivial
theorem tw6818794334966031228:True:=trivial
theorem tw17636498001701036540:True:=trivial
theorem tw892129013549046268:True:=trivial
theorem tw6083216120824508924:True:=trivial
theorem tw9084138659554516604:True:=trivial
theorem tw3204477648971643516:True:=trivial
theorem tw841796514526785148:True:=trivial
theorem tw6819951675404291740:True:=trivial
theorem tw16348772391374664348:True:=trivial
theorem tw5892565297804864284:True:=trivial
theorem tw17763621610417514300:True:=trivial
theorem tw8123230133212495196:True:=trivial
theorem tw1305765272668976476:True:=trivial
theorem tw14463907459574977916:True:=trivial
theorem tw8352113481228398972:True:=trivial
theorem tw10463844219377425788:True:=trivial
theorem tw4829707307905486844:True:=trivial
theorem tw15216398166736295932:True:=trivial
theorem tw8874423630435976188:True:=trivial
theorem tw3378313045099975196:True:=trivial
theorem tw2326265122132131388:True:=trivial
theorem tw163615132191766959:True:=trivial
theorem tw2708504932554511311:True:=trivial
theorem tw3984116658860827183:True:=trivial
theorem tw14885905341909139567:True:=trivial
theorem tw12969716362464704687:True:=trivial
theorem tw16442906112608585423:True:=trivial
theorem tw10847326731033867119:True:=trivial
theorem tw7080570279473447407:True:=trivial
theorem tw7617291465387326959:True:=trivial
theorem tw12468605643714671119:True:=trivial
theorem tw4633624667725422191:True:=trivial
theorem tw12952763386543969647:True:=trivial
theorem tw723751024536911758:True:=trivial
theorem tw437525291003152270:True:=trivial
theorem tw16646753506651835310:True:=trivial
theorem tw10416167823817639854:True:=trivial
theorem tw2963626008748563950:True:=trivial
theorem tw12509645677046929902:True:=trivial
theorem tw4412197155465221166:True:=trivial
theorem tw1345693377582119566:True:=trivial
theorem tw11852588427025046766:True:=trivial
theorem tw15024430283478785294:True:=trivial
theorem tw14325394580266047758:True:=trivial
theorem tw15728072114810635054:True:=trivial
theorem tw10385287106410270734:True:=trivial
theorem tw11165324876153685006:True:=trivial
theorem tw2494860121432070702:True:=trivial
theorem tw358101662737171022:True:=trivial
theorem tw18114929590778572366:True:=trivial
theorem tw6353915992915217550:True:=trivial
theorem tw14505296532977319118:True:=trivial
theorem tw11718365639791421081:True:=trivial
theorem tw3246479087116966617:True:=trivial
theorem tw8958558348416517369:True:=trivial
theorem tw10801116773589350713:True:=trivial
theorem tw6237050835818527769:True:=trivial
theorem tw17506510081998626873:True:=trivial
theorem tw17512136536735424121:True:=trivial
theorem tw17074016736072363641:True:=trivial
theorem tw12160557207187996825:True:=trivial
theorem tw5792564611294301369:True:=trivial
theorem tw9602787763664467161:True:=trivial
theorem tw10276457095037920473:True:=trivial
theorem tw2326622046555407097:True:=trivial
theorem tw5034201412476950873:True:=trivial
theorem tw15033581576917833657:True:=trivial
theorem tw2347575383192433688:True:=trivial
theorem tw15297399568856054808:True:=trivial
theorem tw2270528306411111448:True:=trivial
theorem tw11390206652218612792:True:=trivial
theorem tw17338511754166938200:True:=trivial
theorem tw1127542788424986264:True:=trivial
theorem tw322013922664687832:True:=trivial
theorem tw13711979928241606904:True:=trivial
theorem tw18312887393342397688:True:=trivial
theorem tw9419500411099899224:True:=trivial
theorem tw581689487702057912:True:=trivial
theorem tw12512249531341248440:True:=trivial
theorem tw10937054619653669848:True:=trivial
theorem tw8321809370968276984:True:=trivial
theorem tw367620316394899544:True:=trivial
theorem tw4293527598463759448:True:=trivial
theorem tw9752791670051273400:True:=trivial
theorem tw11959178710185272024:True:=trivial
theorem tw15107660261348002104:True:=trivial
theorem tw13709076935422714744:True:=trivial
theorem tw13243875261450447288:True:=trivial
theorem tw17196281230719041515:True:=trivial
theorem tw335580941236730891:True:=trivial
theorem tw2083089114786492523:True:=trivial
theorem tw13640589433369720971:True:=trivial
theorem tw5497071814230277451:True:=trivial
theorem tw6849061576465227627:True:=trivial
theorem tw11249319031760378795:True:=trivial
theorem tw14026796388982897131:True:=trivial
theorem tw17502162009505739275:True:=trivial
theorem tw10782175957487350283:True:=trivial
theorem tw1794296222877603883:True:=trivial
theorem tw8048603810160434795:True:=trivial
theorem tw16431554313489639019:True:=trivial
theorem tw11610016061151373963:True:=trivial
theorem tw18262183362553350347:True:=trivial
theorem tw17835826210579745003:True:=trivial
theorem tw10705864209834592491:True:=trivial
theorem tw3527898610159271723:True:=trivial
theorem tw5214953590949813067:True:=trivial
theorem tw15007400177259013483:True:=trivial
theorem tw3345672119445230955:True:=trivial
theorem tw18099445417597099306:True:=trivial
theorem tw13030875857260041514:True:=trivial
theorem tw6271981984161781578:True:=trivial
theorem tw13100038144772621162:True:=trivial
theorem tw2099521564674518474:True:=trivial
theorem tw5139186915502320650:True:=trivial
theorem tw3148331722757492778:True:=trivial
theorem tw11289372632892604458:True:=trivial
theorem tw13251747124615787114:True:=trivial
theorem tw7221472510885836970:True:=trivial
theorem tw10353738195469517546:True:=trivial
theorem tw11508605469049890570:True:=trivial
theorem tw3235377752224574250:True:=trivial
theorem tw6852098378349292330:True:=trivial
theorem tw5218176213489668426:True:=trivial
theorem tw8906237103650186122:True:=trivial
theorem tw17814513641307109290:True:=trivial
theorem tw14901090560095663050:True:=trivial
theorem tw5768679204334386698:True:=trivial
theorem tw7633065165077544490:True:=trivial
theorem tw9970708053199423594:True:=trivial
theorem tw12592602467819240554:True:=trivial
theorem tw4984368079376912821:True:=trivial
theorem tw15233234677128081429:True:=trivial
theorem tw3683542325636647541:True:=trivial
theorem tw15872247296997213813:True:=trivial
theorem tw12133340930156889461:True:=trivial
theorem tw7655525328726459765:True:=trivial
theorem tw7436101704247830933:True:=trivial
theorem tw16476653384676183989:True:=trivial
theorem tw17701118689439186869:True:=trivial
theorem tw5412227691941710805:True:=trivial
theorem tw1987658718211308053:True:=trivial
theorem tw11087578862089394741:True:=trivial
theorem tw13987811149403647541:True:=trivial
theorem tw1908631337673431125:True:=trivial
theorem tw13898078683971853397:True:=trivial
theorem tw9020508395179364469:True:=trivial
theorem tw13837990888025183349:True:=trivial
theorem tw13602760510867800309:True:=trivial
theorem tw11763481607531091797:True:=trivial
theorem tw44716624391203733:True:=trivial
theorem tw13879157630203879796:True:=trivial
theorem tw14052042488592862612:True:=trivial
theorem tw9543736446576396692:True:=trivial
theorem tw15356130437383742036:True:=trivial
theorem tw15882734518101856852:True:=trivial
theorem tw12441837709774272628:True:=trivial
theorem tw6259936140151097076:True:=trivial
theorem tw4221493590811944244:True:=trivial
theorem tw6363713293397640084:True:=trivial
theorem tw3822179243074971124:True:=trivial
theorem tw18412903705300905140:True:=trivial
theorem tw12410559899449396404:True:=trivial
theorem tw2460875216393618612:True:=trivial
theorem tw16602456095206278471:True:=trivial
theorem tw6873020181121597767:True:=trivial
theorem tw12184499385338992071:True:=trivial
theorem tw4858227689501919751:True:=trivial
theorem tw10684632905292462183:True:=trivial
theorem tw8432919890480903847:True:=trivial
theorem tw9686449745189920967:True:=trivial
theorem tw1761453009175486247:True:=trivial
theorem tw7822267015997334343:True:=trivial
theorem tw2884570481888288135:True:=trivial
theorem tw10616779753743199815:True:=trivial
theorem tw9296873056508591271:True:=trivial
theorem tw17190475490629275815:True:=trivial
theorem tw5638109495620152007:True:=trivial
theorem tw17185209363705860326:True:=trivial
theorem tw4260847682011762534:True:=trivial
theorem tw18430329399088304550:True:=trivial
theorem tw11366968209810529734:True:=trivial
theorem tw1006325456240089542:True:=trivial
theorem tw7539890033857325030:True:=trivial
theorem tw14857634026979166182:True:=trivial
theorem tw13650052149284874822:True:=trivial
theorem tw5705079690646703718:True:=trivial
theorem tw1736619614553213734:True:=trivial
theorem tw4897343086001402214:True:=trivial
theorem tw2920346408481521542:True:=trivial
theorem tw18134949872507165158:True:=trivial
theorem tw99623255088441414:True:=trivial
theorem tw10847083774302143590:True:=trivial
theorem tw15796949380967444582:True:=trivial
theorem tw9715464184608773975:True:=trivial
end PySem.W.Fast
open PySem PySem.W PyProof.Rows
set_option maxRecDepth 100000 in
set_option maxHeartbeats 0 in
theorem PySem.Challenge.cw_halvedpictures_k16_whole_rows_put_back_holds : PySem.Challenge.rw_halvedpictures_k16_whole_rows_put_back.Holds := by
 w_on;o_law;k_head;(case hw=>w_witness2)
 k_fill
 refine K16.walk (l:=PySem.Challenge.rw_halvedpictures_k16_whole_rows_put_back) rfl rfl (fun w h Y=>PySem.W.kIn_of Y) ?F
 case F=>
  intro w mg fa h KX G hmg
  refine' K16.all_mk KX G hmg ?aC_Guessed ?pg_Guessed ?hd_Guessed ?po_Guessed ?sa_Guessed ?mk_Guessed ?kc_Guessed ?in_Guessed ?aC_Halves ?pg_Halves ?hd_Halves ?po_Halves ?sa_Halves ?mk_Halves ?kc_Halves ?in_Halves ?aC_Leaning ?pg_Leaning ?hd_Leaning ?po_Leaning ?sa_Leaning ?mk_Leaning ?kc_Leaning ?in_Leaning ?aC_Plan ?pg_Plan ?hd_Plan ?po_Plan ?sa_Plan ?mk_Plan ?kc_Plan ?aC_Sums ?pg_Sums ?hd_Sums ?po_Sums ?sa_Sums ?mk_Sums ?kc_Sums ?in_Sums ?n_Plan_chosen ?n_Plan_corners ?n_Plan_letters ?q_ALONG_PILLARS ?lk_ALONG_PILLARS ?q_ALONG_ROWS ?lk_ALONG_ROWS ?y_bs ?y_is ?y_ns ?y_ss ?y_ls ?y_ts ?y_ds ?a0 ?l0 ?c0 ?k0 ?a1 ?l1 ?c1 ?k1 ?a2 ?l2 ?c2 ?k2 ?a3 ?l3 ?c3 ?k3 ?a4 ?l4 ?c4 ?k4 ?a5 ?l5 ?c5 ?k5 ?a6 ?l6 ?c6 ?k6 ?a7 ?i7 ?l7 ?c7 ?k7 ?a8 ?i8 ?l8 ?c8 ?k8 ?a9 ?i9 ?l9 ?c9 ?k9 ?a10 ?i10 ?l10 ?c10 ?k10 ?a11 ?i11 ?l11 ?c11 ?k11 ?a12 ?i12 ?l12 ?c12 ?k12 ?a13 ?i13 ?l13 ?c13 ?k13 ?a14 ?i14 ?l14 ?c14 ?k14 ?a15 ?i15 ?l15 ?c15 ?k15 ?a16 ?i16 ?l16 ?c16 ?k16 ?a17 ?i17 ?l17 ?c17 ?k17 ?a18 ?i18 ?l18 ?c18 ?k18 ?a19 ?i19 ?l19 ?c19 ?k19 ?a20 ?i20 ?l20 ?c20 ?k20 ?a21 ?i21 ?l21 ?c21 ?k21 ?a22 ?i22 ?l22 ?c22 ?k22 ?a23 ?l23 ?c23 ?k23 ?a24 ?l24 ?c24 ?k24 ?a25 ?l25 ?c25 ?k25 ?a26 ?l26 ?c26 ?k26 ?a27 ?l27 ?c27 ?k27 ?a28 ?i28 ?l28 ?c28 ?k28 ?a29 ?i29 ?l29 ?c29 ?k29 ?a30 ?i30 ?l30 ?c30 ?k30 ?a31 ?i31 ?l31 ?c31 ?k31 ?a32 ?i32 ?l32 ?c32 ?k32 ?a33 ?i33 ?l33 ?c33 ?k33 ?a34 ?l34 ?c34 ?k34 ?a35 ?l35 ?c35 ?k35 ?a36 ?l36 ?c36 ?k36 ?a37 ?l37 ?c37 ?k37 ?a38 ?i38 ?l38 ?c38 ?k38 ?a39 ?i39 ?l39 ?c39 ?k39 ?a40 ?l40 ?c40 ?k40 ?a41 ?l41 ?c41 ?k41 ?a42 ?l42 ?c42 ?k42 ?a43 ?l43 ?c43 ?k43 ?a44 ?l44 ?c44 ?k44 ?a45 ?l45 ?c45 ?k45 ?a46 ?l46 ?c46 ?k46 ?a47 ?l47 ?c47 ?k47 ?a48 ?l48 ?c48 ?k48 ?a49 ?l49 ?c49 ?k49 ?a50 ?l50 ?c50 ?k50 ?a51 ?l51 ?c51 ?k51 ?a52 ?l52 ?c52 ?k52 ?e_Halves_halves ?e_Halves_back ?e_Halves_sums_of ?e_Halves_row_of ?e_Leaning_sum_of_pair ?e_Leaning_sum_of_lone ?e_Leaning_pair_of ?e_Leaning_lone_of ?e_Leaning_halves ?e_Leaning_back ?e_Leaning_sums_of ?e_Leaning_row_of ?e_Sums_halves ?e_Sums_back ?e_Sums_parted ?e_Sums_joined ?e_Sums_sums_of ?e_Sums_row_of ?e_Sums_sum_of_pair ?e_Sums_sum_of_lone ?e_Sums_pair_of ?e_Sums_lone_of ?q_MOST_NUMBER ?q_MOST_PLACES ?q_MOST_SIDE ?z_abs ?z_all ?z_bool ?z_enumerate ?z_int ?z_isinstance ?z_len ?z_list ?z_max ?z_min ?z_range ?z_repr ?z_str ?z_tuple ?z_zip ?y_bb ?y_bi ?y_bl ?y_bt ?y_ib ?y_ii ?y_il ?y_it ?y_nb ?y_ni ?y_nl ?y_nt ?y_sb ?y_si ?y_sl ?y_st ?y_lb ?y_li ?y_ll ?y_lt ?y_tb ?y_ti ?y_tl ?y_tt ?y_db ?y_di ?y_dl ?y_dt
  (case aC_Guessed=>k_is)
  (case pg_Guessed=>k_is)
  (case hd_Guessed=>k_is)
  (case po_Guessed=>k_is)
  (case sa_Guessed=>k_is)
  (case mk_Guessed=>k_is)
  (case kc_Guessed=>k_is)
  (case in_Guessed=>k_is)
  (case aC_Halves=>k_is)
  (case pg_Halves=>k_is)
  (case hd_Halves=>k_is)
  (case po_Halves=>k_is)
  (case sa_Halves=>k_is)
  (case mk_Halves=>k_is)
  (case kc_Halves=>k_is)
  (case in_Halves=>k_is)
  (case aC_Leaning=>k_is)
  (case pg_Leaning=>k_is)
  (case hd_Leaning=>k_is)
  (case po_Leaning=>k_is)
  (case sa_Leaning=>k_is)
  (case mk_Leaning=>k_is)
  (case kc_Leaning=>k_is)
  (case in_Leaning=>k_is)
  (case aC_Plan=>k_is)
  (case pg_Plan=>k_is)
  (case hd_Plan=>k_is)
  (case po_Plan=>k_is)
  (case sa_Plan=>k_is)
  (case mk_Plan=>k_is)
  (case kc_Plan=>k_is)
  (case aC_Sums=>k_is)
  (case pg_Sums=>k_is)
  (case hd_Sums=>k_is)
  (case po_Sums=>k_is)
  (case sa_Sums=>k_is)
  (case mk_Sums=>k_is)
  (case kc_Sums=>k_is)
  (case in_Sums=>k_is)
  (case n_Plan_chosen=>k_is)
  (case n_Plan_corners=>k_is)
  (case n_Plan_letters=>k_is)
  (case q_ALONG_PILLARS=>k_is)
  (case lk_ALONG_PILLARS=>k_is)
  (case q_ALONG_ROWS=>k_is)
  (case lk_ALONG_ROWS=>k_is)
  (case y_bs=>kit_is)
  (case y_is=>kit_is)
  (case y_ns=>kit_is)
  (case y_ss=>kit_is)
  (case y_ls=>kit_is)
  (case y_ts=>kit_is)
  (case y_ds=>kit_is)
  (case a0=>k_is)
  (case l0=>k_is)
  (case c0=>k_is)
  (case k0=>k_is)
  (case a1=>k_is)
  (case l1=>k_is)
  (case c1=>k_is)
  (case k1=>k_is)
  (case a2=>k_is)
  (case l2=>k_is)
  (case c2=>k_is)
  (case k2=>k_is)
  (case a3=>k_is)
  (case l3=>k_is)
  (case c3=>k_is)
  (case k3=>k_is)
  (case a4=>k_is)
  (case l4=>k_is)
  (case c4=>k_is)
  (case k4=>k_is)
  (case a5=>k_is)
  (case l5=>k_is)
  (case c5=>k_is)
  (case k5=>k_is)
  (case a6=>k_is)
  (case l6=>k_is)
  (case c6=>k_is)
  (case k6=>k_is)
  (case a7=>k_is)
  (case i7=>k_is)
  (case l7=>k_is)
  (case c7=>k_is)
  (case k7=>k_is)
  (case a8=>k_is)
  (case i8=>k_is)
  (case l8=>k_is)
  (case c8=>k_is)
  (case k8=>k_is)
  (case a9=>k_is)
  (case i9=>k_is)
  (case l9=>k_is)
  (case c9=>k_is)
  (case k9=>k_is)
  (case a10=>k_is)
  (case i10=>k_is)
  (case l10=>k_is)
  (case c10=>k_is)
  (case k10=>k_is)
  (case a11=>k_is)
  (case i11=>k_is)
  (case l11=>k_is)
  (case c11=>k_is)
  (case k11=>k_is)
  (case a12=>k_is)
  (case i12=>k_is)
  (case l12=>k_is)
  (case c12=>k_is)
  (case k12=>k_is)
  (case a13=>k_is)
  (case i13=>k_is)
  (case l13=>k_is)
  (case c13=>k_is)
  (case k13=>k_is)
  (case a14=>k_is)
  (case i14=>k_is)
  (case l14=>k_is)
  (case c14=>k_is)
  (case k14=>k_is)
  (case a15=>k_is)
  (case i15=>k_is)
  (case l15=>k_is)
  (case c15=>k_is)
  (case k15=>k_is)
  (case a16=>k_is)
  (case i16=>k_is)
  (case l16=>k_is)
  (case c16=>k_is)
  (case k16=>k_is)
  (case a17=>k_is)
  (case i17=>k_is)
  (case l17=>k_is)
  (case c17=>k_is)
  (case k17=>k_is)
  (case a18=>k_is)
  (case i18=>k_is)
  (case l18=>k_is)
  (case c18=>k_is)
  (case k18=>k_is)
  (case a19=>k_is)
  (case i19=>k_is)
  (case l19=>k_is)
  (case c19=>k_is)
  (case k19=>k_is)
  (case a20=>k_is)
  (case i20=>k_is)
  (case l20=>k_is)
  (case c20=>k_is)
  (case k20=>k_is)
  (case a21=>k_is)
  (case i21=>k_is)
  (case l21=>k_is)
  (case c21=>k_is)
  (case k21=>k_is)
  (case a22=>k_is)
  (case i22=>k_is)
  (case l22=>k_is)
  (case c22=>k_is)
  (case k22=>k_is)
  (case a23=>k_is)
  (case l23=>k_is)
  (case c23=>k_is)
  (case k23=>k_is)
  (case a24=>k_is)
  (case l24=>k_is)
  (case c24=>k_is)
  (case k24=>k_is)
  (case a25=>k_is)
  (case l25=>k_is)
  (case c25=>k_is)
  (case k25=>k_is)
  (case a26=>k_is)
  (case l26=>k_is)
  (case c26=>k_is)
  (case k26=>k_is)
  (case a27=>k_is)
  (case l27=>k_is)
  (case c27=>k_is)
  (case k27=>k_is)
  (case a28=>k_is)
  (case i28=>k_is)
  (case l28=>k_is)
  (case c28=>k_is)
  (case k28=>k_is)
  (case a29=>k_is)
  (case i29=>k_is)
  (case l29=>k_is)
  (case c29=>k_is)
  (case k29=>k_is)
  (case a30=>k_is)
  (case i30=>k_is)
  (case l30=>k_is)
  (case c30=>k_is)
  (case k30=>k_is)
  (case a31=>k_is)
  (case i31=>k_is)
  (case l31=>k_is)
  (case c31=>k_is)
  (case k31=>k_is)
  (case a32=>k_is)
  (case i32=>k_is)
  (case l32=>k_is)
  (case c32=>k_is)
  (case k32=>k_is)
  (case a33=>k_is)
  (case i33=>k_is)
  (case l33=>k_is)
  (case c33=>k_is)
  (case k33=>k_is)
  (case a34=>k_is)
  (case l34=>k_is)
  (case c34=>k_is)
  (case k34=>k_is)
  (case a35=>k_is)
  (case l35=>k_is)
  (case c35=>k_is)
  (case k35=>k_is)
  (case a36=>k_is)
  (case l36=>k_is)
  (case c36=>k_is)
  (case k36=>k_is)
  (case a37=>k_is)
  (case l37=>k_is)
  (case c37=>k_is)
  (case k37=>k_is)
  (case a38=>k_is)
  (case i38=>k_is)
  (case l38=>k_is)
  (case c38=>k_is)
  (case k38=>k_is)
  (case a39=>k_is)
  (case i39=>k_is)
  (case l39=>k_is)
  (case c39=>k_is)
  (case k39=>k_is)
  (case a40=>k_is)
  (case l40=>k_is)
  (case c40=>k_is)
  (case k40=>k_is)
  (case a41=>k_is)
  (case l41=>k_is)
  (case c41=>k_is)
  (case k41=>k_is)
  (case a42=>k_is)
  (case l42=>k_is)
  (case c42=>k_is)
  (case k42=>k_is)
  (case a43=>k_is)
  (case l43=>k_is)
  (case c43=>k_is)
  (case k43=>k_is)
  (case a44=>k_is)
  (case l44=>k_is)
  (case c44=>k_is)
  (case k44=>k_is)
  (case a45=>k_is)
  (case l45=>k_is)
  (case c45=>k_is)
  (case k45=>k_is)
  (case a46=>k_is)
  (case l46=>k_is)
  (case c46=>k_is)
  (case k46=>k_is)
  (case a47=>k_is)
  (case l47=>k_is)
  (case c47=>k_is)
  (case k47=>k_is)
  (case a48=>k_is)
  (case l48=>k_is)
  (case c48=>k_is)
  (case k48=>k_is)
  (case a49=>k_is)
  (case l49=>k_is)
  (case c49=>k_is)
  (case k49=>k_is)
  (case a50=>k_is)
  (case l50=>k_is)
  (case c50=>k_is)
  (case k50=>k_is)
  (case a51=>k_is)
  (case l51=>k_is)
  (case c51=>k_is)
  (case k51=>k_is)
  (case a52=>k_is)
  (case l52=>k_is)
  (case c52=>k_is)
  (case k52=>k_is)
  (case e_Halves_halves=>k_is)
  (case e_Halves_back=>k_is)
  (case e_Halves_sums_of=>k_is)
  (case e_Halves_row_of=>k_is)
  (case e_Leaning_sum_of_pair=>k_is)
  (case e_Leaning_sum_of_lone=>k_is)
  (case e_Leaning_pair_of=>k_is)
  (case e_Leaning_lone_of=>k_is)
  (case e_Leaning_halves=>k_is)
  (case e_Leaning_back=>k_is)
  (case e_Leaning_sums_of=>k_is)
  (case e_Leaning_row_of=>k_is)
  (case e_Sums_halves=>k_is)
  (case e_Sums_back=>k_is)
  (case e_Sums_parted=>k_is)
  (case e_Sums_joined=>k_is)
  (case e_Sums_sums_of=>k_is)
  (case e_Sums_row_of=>k_is)
  (case e_Sums_sum_of_pair=>k_is)
  (case e_Sums_sum_of_lone=>k_is)
  (case e_Sums_pair_of=>k_is)
  (case e_Sums_lone_of=>k_is)
  (case q_MOST_NUMBER=>k_is)
  (case q_MOST_PLACES=>k_is)
  (case q_MOST_SIDE=>k_is)
  (case z_abs=>k_is)
  (case z_all=>k_is)
  (case z_bool=>k_is)
  (case z_enumerate=>k_is)
  (case z_int=>k_is)
  (case z_isinstance=>k_is)
  (case z_len=>k_is)
  (case z_list=>k_is)
  (case z_max=>k_is)
  (case z_min=>k_is)
  (case z_range=>k_is)
  (case z_repr=>k_is)
  (case z_str=>k_is)
  (case z_tuple=>k_is)
  (case z_zip=>k_is)
  (case y_bb=>kit_is)
  (case y_bi=>kit_is)
  (case y_bl=>kit_is)
  (case y_bt=>kit_is)
  (case y_ib=>kit_is)
  (case y_ii=>kit_is)
  (case y_il=>kit_is)
  (case y_it=>kit_is)
  (case y_nb=>kit_is)
  (case y_ni=>kit_is)
  (case y_nl=>kit_is)
  (case y_nt=>kit_is)
  (case y_sb=>kit_is)
  (case y_si=>kit_is)
  (case y_sl=>kit_is)
  (case y_st=>kit_is)
  (case y_lb=>kit_is)
  (case y_li=>kit_is)
  (case y_ll=>kit_is)
  (case y_lt=>kit_is)
  (case y_tb=>kit_is)
  (case y_ti=>kit_is)
  (case y_tl=>kit_is)
  (case y_tt=>kit_is)
  (case y_db=>kit_is)
  (case y_di=>kit_is)
  (case y_dl=>kit_is)
  (case y_dt=>kit_is)
