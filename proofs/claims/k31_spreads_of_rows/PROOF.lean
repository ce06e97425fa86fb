import PyProof.Rows.All
import Wide.All
import OpenK.AllK
import Wide.FinOn
import Lean
import KE.KRevIter
import KE.KPairComp
import KE.KIntText
import PyProof.NsDelKeeps
import PyProof.NeKinds
import KE.KNestM
import KE.KLam
import OpenK.KTop
import PyProof.FactsAll.dict_1
import PyProof.FactsAll.subtypes_4
import PyProof.Rows.SetFrom
import PyProof.SetNew
import PyProof.SetRoads
import PyProof.EqAt
import PyProof.EqKinds
import PyProof.TupleCall
import PySem.Challenge.RW_halvedpictures_k31_spreads_of_rows
set_option Elab.async false
set_option linter.all false
set_option maxRecDepth 100000
namespace L2
open PySem PySem.Spec PyProof.Rows
abbrev Key:=Sum Int Str
def Bh:Key→Value→Bool
 | .inl k,v=>Value.isInt k v
 | .inr x,v=>Value.isStrOf x v
def GS (w:World):Key→Int
 | .inl k=>hashInt k
 | .inr x=>hashStr w x
theorem bU:∀ {k:Key} {v:Value},Bh k v=true→(∃ i t,k=Sum.inl i∧v=Value.int i t)∨(∃ x t,k=Sum.inr x∧v=Value.str x t)
 | .inl i,v,h=>by
  obtain⟨t,e⟩:=Value.isInt_shape (k:=i) (v:=v) h
  exact .inl ⟨i,t,rfl,e⟩
 | .inr x,v,h=>by
  obtain⟨t,e⟩:=Value.isStrOf_shape (x:=x) (v:=v) h
  exact .inr ⟨x,t,rfl,e⟩
theorem DF (a b:Int):decide ((Sum.inl a:Key)=Sum.inl b)=(a == b):=by
 by_cases e:a=b
 ·subst e;simp
 ·have h:¬ (Sum.inl a:Key)=Sum.inl b:=fun q=>e (Sum.inl.inj q)
  rw[decide_eq_false h]
  exact(beq_eq_false_iff_ne.mpr e).symm
theorem DC (a b:Str):decide ((Sum.inr a:Key)=Sum.inr b)=decide (a=b):=by
 by_cases e:a=b
 ·subst e;simp
 ·have h:¬ (Sum.inr a:Key)=Sum.inr b:=fun q=>e (Sum.inr.inj q)
  rw[decide_eq_false h,decide_eq_false e]
theorem DE (a:Int) (b:Str):decide ((Sum.inl a:Key)=Sum.inr b)=false:=decide_eq_false (fun q=>nomatch q)
theorem DD (a:Str) (b:Int):decide ((Sum.inr a:Key)=Sum.inl b)=false:=decide_eq_false (fun q=>nomatch q)
def mJ (prog:Program) (w:World):PySem.KeyKind prog w Key where
 is:=Bh
 hash:=GS w
 inj:=fun v a b ha hb=>by
  rcases bU ha with ⟨i,t,rfl,rfl⟩ | ⟨x,t,rfl,rfl⟩
  ·rcases bU hb with ⟨j,u,rfl,e⟩ | ⟨y,u,rfl,e⟩
   ·injection e with e1 _;rw[e1]
   ·exact nomatch e
  ·rcases bU hb with ⟨j,u,rfl,e⟩ | ⟨y,u,rfl,e⟩
   ·exact nomatch e
   ·injection e with e1 _;rw[e1]
 byValue:=fun k v h=>by
  rcases bU h with ⟨i,t,rfl,rfl⟩ | ⟨x,t,rfl,rfl⟩ <;> rfl
 pyHash:=fun hv h=>by
  rcases bU hv with ⟨i,t,rfl,rfl⟩ | ⟨x,t,rfl,rfl⟩
  ·exact wpAny_pyHash_int h
  ·exact wpAny_pyHash_str h
 eqBool:=fun hu hv h=>by
  rcases bU hu with ⟨i,t,rfl,rfl⟩ | ⟨x,t,rfl,rfl⟩
  ·rcases bU hv with ⟨j,u,rfl,rfl⟩ | ⟨y,u,rfl,rfl⟩
   ·rw[DF] at h;exact wpAny_eqBool_int h
   ·rw[DE] at h;exact SeqAt.EqAt.int_str i t y u _ _ _ _ h
  ·rcases bU hv with ⟨j,u,rfl,rfl⟩ | ⟨y,u,rfl,rfl⟩
   ·rw[DD] at h;exact SeqAt.EqAt.str_int x t j u _ _ _ _ h
   ·rw[DC] at h;exact wpAny_eqBool_str h
 «strs»:=fun k x t v h=>by
  rcases bU h with ⟨i,u,rfl,e⟩ | ⟨y,u,rfl,e⟩
  ·exact nomatch e
  ·injection e with e1 _
   subst e1
   cases v <;> rfl
end L2
namespace L2
open PySem PySem.Spec PyProof.Rows
inductive V where
 | non | bl (b:Bool) | int (i:Int) | str (x:Str) | byt (b:Array UInt8) | flt (b:UInt64) | ref (a:Addr) | ty (n:String)
 deriving DecidableEq
def RelV:V→Value→Prop
 | .non,u=>u=Value.none
 | .bl b,u=>u=Value.bool b
 | .int i,u=>∃ t,u=Value.int i t
 | .str x,u=>∃ t,u=Value.str x t
 | .byt b,u=>∃ t,u=Value.bytes b t
 | .flt b,u=>∃ t,u=Value.float b t
 | .ref a,u=>u=Value.ref a
 | .ty n,u=>u=Value.type n
abbrev Vals:List V→List Value→Prop:=Paired RelV
theorem Vals.length {xs:List V} {us:List Value} (r:Vals xs us):xs.length=us.length:=Paired.length r
theorem Vals.get:∀ {xs:List V} {us:List Value} {i:Nat} {x:V},Vals xs us→xs[i]?=some x→∃ u,us[i]?=some u∧RelV x u
 | _,_,_,_,.nil,e=>by simp at e
 | _,_,0,_,.cons r _,e=>by simp at e;subst e;exact⟨_,rfl,r⟩
 | _,_,i + 1,x,.cons _ t,e=>by
  obtain⟨u,h1,h2⟩:=Vals.get (i:=i) (x:=x) t (by simpa using e)
  exact⟨u,by simpa using h1,h2⟩
theorem Vals.set {x:V} {u:Value} (r:RelV x u):∀ {xs:List V} {us:List Value} (i:Nat),Vals xs us→Vals (xs.set i x) (us.set i u)
 | _,_,_,.nil=>.nil
 | _,_,0,.cons _ t=>.cons r t
 | _,_,i + 1,.cons q t=>.cons q (Vals.set r i t)
theorem Vals.append:∀ {xs ys:List V} {us ws:List Value},Vals xs us→Vals ys ws→Vals (xs++ys) (us++ws)
 | _,_,_,_,.nil,s=>s
 | _,_,_,_,.cons r t,s=>.cons r (Vals.append t s)
theorem Vals.take:∀ {xs:List V} {us:List Value} (n:Nat),Vals xs us→Vals (xs.take n) (us.take n)
 | _,_,0,_=>.nil
 | _,_,_ + 1,.nil=>.nil
 | _,_,n + 1,.cons r t=>.cons r (Vals.take n t)
theorem Vals.drop:∀ {xs:List V} {us:List Value} (n:Nat),Vals xs us→Vals (xs.drop n) (us.drop n)
 | _,_,0,r=>r
 | _,_,_ + 1,.nil=>.nil
 | _,_,n + 1,.cons _ t=>Vals.drop n t
theorem Vals.none_of:∀ {xs:List V} {us:List Value} {i:Nat},Vals xs us→xs[i]?=none→us[i]?=none:=fun {xs us i} r e=>by
 have h1:=r.length
 have h2:xs.length≤i:=List.getElem?_eq_none_iff.mp e
 exact List.getElem?_eq_none_iff.mpr (by omega)
def k9:Option V→Option Value→Prop
 | some v,some u=>RelV v u
 | none,none=>True
 | _,_=>False
def KV {κ:Type}:List (κ×V)→List (κ×Value)→Prop:=Paired fun (p:κ×V) (q:κ×Value)=>p.1=q.1∧RelV p.2 q.2
def kV:Key→V
 | .inl i=>.int i
 | .inr x=>.str x
inductive HO where
 | lst (xs:List V)
 | tup (xs:List V)
 | dK (kvs:List (Key×V)) | dT (kvs:List (List Key×V))
 | set (S:Int→Bool) (n:Nat)
 | ins (C dx:Addr) (fs:List (Str×V))
 | own (x:Addr)
 | xd (fs:List (Str×V))
 | met (f x:Addr)
 | rng (lo hi:Int)
 | frz (o:Obj) (u:HO)
 | tbl (ps:Array Value)
 | ext (φ:Heap→Prop)
 | cod (c:Addr) (q:Str)
abbrev Hp:=Addr→Option HO
def sE (H:Hp) (v:Value) (q:Str):Prop:=∃ c oc vs t φ,v=.ref c∧H c=some (.frz oc (.ext φ))∧oc.data=.fields vs∧vs[1]?=some (.str q t)
theorem sE.mono {H H':Hp} {v:Value} {q:Str} (x:sE H v q) (hf:∀ b o φ,H b=some (.frz o (.ext φ))→H' b=some (.frz o (.ext φ))):sE H' v q:=
 let ⟨c,oc,vs,t,φ,a,b,d⟩:=x;⟨c,oc,vs,t,φ,a,hf _ _ _ b,d⟩
def upd (H:Hp) (a:Addr) (o:HO):Hp:=fun b=>if b=a then some o else H b
theorem au {H:Hp} {a:Addr} {o:HO}:upd H a o a=some o:=by unfold upd;rw[if_pos rfl]
theorem ah {H:Hp} {a b:Addr} {o:HO} (h:b≠a):upd H a o b=H b:=by unfold upd;rw[if_neg h]
theorem oY {H:Hp} {a b:Addr} {o u:HO} (h:H a=some o) (h':H b=some u) (d:o≠u):a≠b:=by
 intro e;subst e;rw[h] at h';exact d (Option.some.inj h')
theorem bj {H:Hp} {a b:Addr} {o:HO} (h:H a=some o) (h':H b=none):a≠b:=by
 intro e;subst e;rw[h] at h';cases h'
section
variable (P:Program) (w:World)
def bX (H:Hp) (h:Heap) (a:Addr):HO→Prop
 | .lst xs=>xs.length≤sizeLine∧∃ (its:List Value) (n:Nat),Vals xs its∧h.get? a=some { cls:=.type "list",data:=.seq its.toArray n }
 | .tup xs=>xs.length≤sizeLine∧∃ its:List Value,Vals xs its∧IsTup h a its.toArray
 | .dK kvs=>kvs.length≤sizeLine∧(a == sysModules)=false∧∃ vs,KV kvs vs∧h.DictOf (mJ P w) a vs
 | .dT kvs=>kvs.length≤sizeLine∧(a == sysModules)=false∧∃ xs:List (List Key×Addr×Value),
   Paired (fun (p:List Key×V) (q:List Key×Addr×Value)=>p.1=q.1∧H q.2.1=some (.tup (p.1.map kV))∧RelV p.2 q.2.2) kvs xs∧
   ∃ o es ep,h.get? a=some o∧o.ExactDict∧o.data=.dict es ep∧es.toList=xs.map (entryOfKey (tupleKind (mJ P w)))∧(xs.map (·.1)).Nodup
 | .set S n=>h.SetOf (intKind P w) a S n
 | .ins C dx fs=>H dx=some (.own a)∧fs.length≤1000∧dx≠a∧h.get? a=some (PySem.W.instObj C dx)∧
   ∃ mA,h.Ns1 dx mA∧(∀ f,k9 (fs.lookup f) (mA f))∧PySem.Within mA (fs.map (·.1))
 | .own _=>∃ o,h.get? a=some o
 | .xd fs=>∃ mA,h.Ns1 a mA∧∀ f,k9 (fs.lookup f) (mA f)
 | .rng lo hi=>∃ t u v,h.get? a=some { cls:=.type "range",data:=.fields #[.int lo t,.int hi u,.int 1 v] }
 | .frz o u=>h.get? a=some o∧bX H h a u
 | .tbl ps=>∃ q t qs,ps[0]?=some (Value.str q t)∧h.get? a=some { cls:=.none,data:=.fields qs }∧TriplesOk qs.toList∧∀ pos v,codeAmong pos qs.toList=some v→sE H v q
 | .cod c q=>(∃ o,h.get? a=some o)∧sE H (.ref c) q
 | .met f x=>h.get? a=some (PySem.W.methodObj (.ref f) (.ref x))
 | .ext φ=>φ h∧(∃ o,h.get? a=some o)∧∀ h1 h2:Heap,φ h1→(∀ o,h1.get? a=some o→h2.get? a=some o)→φ h2
def HOk (H:Hp) (h:Heap):Prop:=∀ a o,H a=some o→bX P w H h a o
end
section
variable {P:Program} {w:World} {H H':Hp} {h h':Heap} {a:Addr} {o:HO}
theorem bX.lt (x:bX P w H h a o):a < h.objs.size:=by
 cases o with
 | lst xs=>obtain⟨_,_,_,_,e⟩:=x;exact Heap.lt_size e
 | tup xs=>obtain⟨_,_,_,p⟩:=x;exact p.lt
 | dK kvs=>obtain⟨_,_,_,_,o,_,_,e,_⟩:=x;exact Heap.lt_size e
 | dT kvs=>obtain⟨_,_,_,_,o,_,_,e,_⟩:=x;exact Heap.lt_size e
 | set S n=>obtain⟨o,_,_,_,e,_⟩:=x;exact Heap.lt_size e
 | ins C dx fs=>obtain⟨_,_,_,e,_⟩:=x;exact Heap.lt_size e
 | own y=>obtain⟨_,e⟩:=x;exact Heap.lt_size e
 | xd fs=>obtain⟨_,⟨_,_,_,e,_⟩,_⟩:=x;exact Heap.lt_size e
 | rng lo hi=>obtain⟨_,_,_,e⟩:=x;exact Heap.lt_size e
 | frz ob u=>obtain⟨e,_⟩:=x;exact Heap.lt_size e
 | tbl ps=>obtain⟨_,_,_,_,e,_⟩:=x;exact Heap.lt_size e
 | cod c q=>obtain⟨⟨_,e⟩,_⟩:=x;exact Heap.lt_size e
 | met f y=>exact Heap.lt_size (show h.get? a=some _ from x)
 | ext φ=>obtain⟨_,⟨_,e⟩,_⟩:=x;exact Heap.lt_size e
theorem Paired.Fd {α β:Type} {F G:α→β→Prop}:∀ {l₁:List α} {l₂:List β},Paired F l₁ l₂→(∀ a b,F a b→G a b)→Paired G l₁ l₂
 | _,_,.nil,_=>.nil
 | _,_,.cons r t,f=>.cons (f _ _ r) (Paired.Fd t f)
theorem bX.j8 (x:bX P w H h a o) (k:∀ b u,(b=a∨H b=some (.own a))→h.get? b=some u→h'.get? b=some u)
  (ho:∀ b,H b=some (.own a)→H' b=some (.own a)) (ht:∀ b xs,H b=some (.tup xs)→H' b=some (.tup xs)) (hf:∀ b o φ,H b=some (.frz o (.ext φ))→H' b=some (.frz o (.ext φ)):=by first | exact fun _ _ _ q=>q | (intro c o u q;rw[_root_.L2.ah (_root_.L2.bj q (by assumption))];exact q)):bX P w H' h' a o:=by
 induction o with
 | lst xs=>obtain⟨z,its,n,r,e⟩:=x;exact⟨z,its,n,r,k _ _ (.inl rfl) e⟩
 | tup xs=>obtain⟨z,its,r,ob,e,c⟩:=x;exact⟨z,its,r,ob,k _ _ (.inl rfl) e,c⟩
 | dK kvs=>obtain⟨z,y,vs,r,ob,es,ep,e,c⟩:=x;exact⟨z,y,vs,r,ob,es,ep,k _ _ (.inl rfl) e,c⟩
 | dT kvs=>
  obtain⟨z,y,xs,r,ob,es,ep,e,c⟩:=x
  exact⟨z,y,xs,Paired.Fd r fun p q z=>⟨z.1,ht _ _ z.2.1,z.2.2⟩,ob,es,ep,k _ _ (.inl rfl) e,c⟩
 | set S n=>obtain⟨ob,es,ep,t,e,c⟩:=x;exact⟨ob,es,ep,t,k _ _ (.inl rfl) e,c⟩
 | ins C dx fs=>
  obtain⟨d,z,ne,e,mA,⟨od,es,ep,e2,c⟩,r⟩:=x
  exact⟨ho _ d,z,ne,k _ _ (.inl rfl) e,mA,⟨od,es,ep,k _ _ (.inr d) e2,c⟩,r⟩
 | own y=>obtain⟨ob,e⟩:=x;exact⟨ob,k _ _ (.inl rfl) e⟩
 | xd fs=>obtain⟨mA,⟨od,es,ep,e,c⟩,r⟩:=x;exact⟨mA,⟨od,es,ep,k _ _ (.inl rfl) e,c⟩,r⟩
 | rng lo hi=>obtain⟨t,u,v,e⟩:=x;exact⟨t,u,v,k _ _ (.inl rfl) e⟩
 | frz ob u ih=>obtain⟨e,q⟩:=x;exact⟨k _ _ (.inl rfl) e,ih q⟩
 | tbl ps=>obtain⟨q,t,qs,e1,e2,e3,e4⟩:=x;exact⟨q,t,qs,e1,k a _ (.inl rfl) e2,e3,fun p v r=>(e4 p v r).mono hf⟩
 | cod c q=>obtain⟨⟨u,e⟩,y⟩:=x;exact⟨⟨u,k a _ (.inl rfl) e⟩,y.mono hf⟩
 | met f y=>
  have e:h.get? a=some (PySem.W.methodObj (.ref f) (.ref y)):=x
  show h'.get? a=some (PySem.W.methodObj (.ref f) (.ref y))
  exact k a _ (.inl rfl) e
 | ext φ=>obtain⟨p,⟨o,e⟩,st⟩:=x;exact⟨st _ _ p fun o q=>k _ _ (.inl rfl) q,⟨o,k _ _ (.inl rfl) e⟩,st⟩
theorem HOk.lt (x:HOk P w H h) (e:H a=some o):a < h.objs.size:=(x a o e).lt
theorem HOk.fresh (x:HOk P w H h) (e:h.objs.size≤a):H a=none:=by
 cases q:H a with
 | none=>rfl
 | some u=>exact absurd (Nat.lt_of_lt_of_le (x.lt q) e) (Nat.lt_irrefl _)
theorem HOk.kept (x:HOk P w H h) (k:∀ b u,h.get? b=some u→h'.get? b=some u):HOk P w H h':=fun a o e=>
 (x a o e).j8 (fun b u _ q=>k b u q) (fun _ q=>q) fun _ _ q=>q
theorem HOk.laid (x:HOk P w H h) (k:∀ b u,h.get? b=some u→h'.get? b=some u) (hp:h.objs.size≤a) (new:bX P w (upd H a o) h' a o):HOk P w (upd H a o) h':=fun b u e=>by
 have hn:=x.fresh hp
 by_cases hb:b=a
 ·subst hb;rw[au] at e;cases e;exact new
 ·rw[ah hb] at e
  exact(x b u e).j8 (fun c v _ q=>k c v q) (fun c q=>by rw[ah (bj q hn)];exact q) fun c xs q=>by rw[ah (bj q hn)];exact q
end
def Rd (H:Hp) (a:Addr) (u:HO):Prop:=H a=some u∨∃ o,H a=some (.frz o u)
theorem Rd.ok {P:Program} {w:World} {H:Hp} {h:Heap} {a:Addr} {u:HO} (r:Rd H a u) (x:HOk P w H h):bX P w H h a u:=by
 rcases r with r | ⟨o,r⟩
 ·exact x a u r
 ·obtain⟨_,q⟩:=x a _ r
  exact q
def Mut:Option HO→Prop
 | some (.lst _)=>True
 | some (.dK _)=>True
 | some (.dT _)=>True
 | some (.set _ _)=>True
 | some (.ins _ _ _)=>True
 | some (.ext _)=>True
 | _=>False
section
variable {P:Program} {w:World} {H:Hp} {h h':Heap} {x e:Addr} {o':HO}
theorem HOk.write (ok:HOk P w H h) (mu:Mut (H x)) (he:e=x∨H e=some (.own x)) (k:∀ b u,b≠e→h.get? b=some u→h'.get? b=some u) (heo:∃ u,h'.get? e=some u)
  (new:bX P w (upd H x o') h' x o'):HOk P w (upd H x o') h':=fun b u q=>by
 have nown:∀ c y,H c=some (.own y)→c≠x:=fun c y r z=>by subst z;rw[r] at mu;exact mu
 have ntup:∀ c xs,H c=some (.tup xs)→c≠x:=fun c xs r z=>by subst z;rw[r] at mu;exact mu
 by_cases hb:b=x
 ·subst hb;rw[au] at q;cases q;exact new
 ·rw[ah hb] at q
  by_cases hbe:b=e
  ·have q':H b=some (.own x):=by
    rcases he with z | z
    ·exact absurd (hbe.trans z) hb
    ·rw[hbe];exact z
   rw[q] at q';cases q'
   obtain⟨v,hv⟩:=heo
   exact⟨v,by rw[hbe];exact hv⟩
  ·refine(ok b u q).j8 (fun c v hc r=>k c v ?_ r) (fun c r=>by rw[ah (nown c b r)];exact r) (fun c xs r=>by rw[ah (ntup c xs r)];exact r) fun c o φ r=>by rw[ah (fun z=>by subst z;rw[r] at mu;exact mu)];exact r
   rcases hc with rfl | hc
   ·exact hbe
   ·rintro rfl
    rcases he with z | z
    ·exact nown c b hc z
    ·rw[hc] at z;cases z;exact hb rfl
end
structure Un (fs ex:List Addr) (H H':Hp) (h h':Heap):Prop where
 keep:∀ b o,h.get? b=some o→H b=none→b∉fs→b∉ex→h'.get? b=some o
 slot:∀ b o,h.get? b=some o→H b=none→b∈fs→b∉ex→∃ sl,h'.get? b=some { o with slots:=sl }
 free:∀ b o,h.get? b=some o→H b=none→b∉ex→H' b=none
 there:∀ b o,h.get? b=some o→b∉ex→∃ o',h'.get? b=some o'
 tups:∀ b xs,H b=some (.tup xs)→H' b=some (.tup xs)
 frzs:∀ b o u,H b=some (.frz o u)→H' b=some (.frz o u)
 tbls:∀ b ps,H b=some (.tbl ps)→∃ more,H' b=some (.tbl (ps++more))
section
variable {fs fs' ex ex':List Addr} {H H1 H2:Hp} {h h1 h2 h':Heap} {a x e:Addr} {o:HO}
theorem Un.any (u:Un fs ex H H1 h h1) {b:Addr} {ob:Obj} (q:h.get? b=some ob) (n:H b=none) (hx:b∉ex):∃ sl,h1.get? b=some { ob with slots:=sl }:=by
 by_cases hb:b∈fs
 ·exact u.slot b ob q n hb hx
 ·exact⟨ob.slots,u.keep b ob q n hb hx⟩
theorem Un.kept (k:∀ b u,h.get? b=some u→h'.get? b=some u):Un fs ex H H h h':=
 ⟨fun b ob q _ _ _=>k b ob q,fun b ob q _ _ _=>⟨ob.slots,k b ob q⟩,fun _ _ _ n _=>n,fun b ob q _=>⟨ob,k b ob q⟩,fun _ _ q=>q,fun _ _ _ q=>q,fun _ ps q=>⟨#[],by rw[q];simp⟩⟩
theorem Un.refl:Un fs ex H H h h:=Un.kept fun _ _ q=>q
theorem Un.laid (k:∀ b u,h.get? b=some u→h'.get? b=some u) (hp:h.objs.size≤a) (hn:H a=none):Un fs ex H (upd H a o) h h' where
 keep:=fun b u q _ _ _=>k b u q
 slot:=fun b u q _ _ _=>⟨u.slots,k b u q⟩
 free:=fun b u q n _=>by rw[ah (Nat.ne_of_lt (Nat.lt_of_lt_of_le (Heap.lt_size q) hp))];exact n
 there:=fun b u q _=>⟨u,k b u q⟩
 tups:=fun b xs q=>by rw[ah (bj q hn)];exact q
 frzs:=fun b u xs q=>by rw[ah (bj q hn)];exact q
 tbls:=fun b ps q=>⟨#[],by rw[ah (bj q hn),q];simp⟩
theorem Un.write (mu:Mut (H x)) (he:e=x∨H e=some (.own x)) (k:∀ b u,b≠e→h.get? b=some u→h'.get? b=some u) (heo:∃ u,h'.get? e=some u):Un fs ex H (upd H x o) h h':=by
 have hx:∀ b,H b=none→b≠x:=fun b n z=>by subst z;rw[n] at mu;exact mu
 have hb:∀ b,H b=none→b≠e:=fun b n z=>by
  subst z
  rcases he with r | r
  ·exact hx b n r
  ·rw[n] at r;cases r
 have hm:∀ b u,H b=some u→¬ Mut (some u)→b≠x:=fun b u q nm z=>by subst z;rw[q] at mu;exact nm mu
 refine⟨fun b u q n _ _=>k b u (hb b n) q,fun b u q n _ _=>⟨u.slots,k b u (hb b n) q⟩,fun b u q n _=>by rw[ah (hx b n)];exact n,fun b u q _=>?_,
  fun b xs q=>by rw[ah (hm b _ q fun z=>z)];exact q,fun b u xs q=>by rw[ah (hm b _ q fun z=>z)];exact q,fun b ps q=>⟨#[],by rw[ah (hm b _ q fun z=>z),q];simp⟩⟩
 by_cases hbe:b=e
 ·subst hbe;exact heo
 ·exact⟨u,k b u hbe q⟩
end
def AI (g h:Heap) (L:Addr):List (Addr×Obj):=(List.range h.objs.size).filterMap fun a=>if a=L∨(g.get? a).isSome=true then none else (h.get? a).map fun o=>(a,o)
def rest (g h:Heap) (L d:Addr):List (Addr×Obj):=(AI g h L).filter fun p=>decide (p.1≠d)
end L2
namespace L2
open PySem PySem.Spec PyProof.Rows
structure Mod (K:PySem.W.Frag) (mg:Str→Option Value) (base:Heap):Prop where
 kin:K.In base
 glob:base.Ns mainGlobals mg
 blt:∃ mb,base.Ns builtinsNs mb∧∀ x:Str,x≠"__name__"→mb x=bootBuiltins x
 nolimit:base.NoLimit
 bm:∃ bm ob,mg "__builtins__"=some (.ref bm)∧bm≠builtinsNs∧base.get? bm=some ob∧ob.cls=.type "module"∧ob.dict=some builtinsNs∧ob.data=.plain
structure Cx where
 prog:Program
 w:World
 K:PySem.W.Frag
 mg:Str→Option Value
 base:Heap
 A:Around
 N:List Str
 s₀:Shared
 H₀:Hp
 env:Env
 outer:List Env
 stack:List Env
 ex:List Addr
 fn:Str→Bool
 calm:Bool
 pn:List (Addr×Obj)
 xe:Value→Shared→Prop
def frs (l:List Env):List Addr:=l.filterMap (·.frame)
abbrev Cx.fs (X:Cx):List Addr:=frs X.outer
def Vis (sc:Scope) (x:Str):Prop:=sc.names.lookup x=some .local∨sc.names.lookup x=some .cell∨sc.names.lookup x=some .free
def Loc (sc:Scope) (x:Str):Prop:=sc.names.lookup x=some .local∨sc.names.lookup x=some .cell
def Look (env:Env) (h:Heap) (m:Str→Option Value) (x:Str) (u:Value):Prop:=
 (env.kindOf x=some .local∧m x=some u)∨((env.kindOf x=some .cell∨env.kindOf x=some .free)∧∃ c,env.cells.lookup x=some c∧h.IsCell c (some u))
def Kpt (H:Hp) (b:Addr) (o:Obj):Prop:=H b=none∨((∃ u,H b=some (.frz o u))∧∀ v,o.data≠.cell v)
def qV (base:Heap) (P:Addr) (q:Str):Prop:=base.objs[P]?=some { cls:=.str q 0,data:=.freed }
def TabsAt (base:Heap) (H:Hp):Prop:=∀ P q,qV base P q→∃ ps t,H P=some (.tbl ps)∧ps[0]?=some (.str q t)
structure Cx.Ok (X:Cx):Prop where
 mod:Mod X.K X.mg X.base
 kind:X.env.scope.kind=.function
 glob:X.env.globals=mainGlobals
 blt:X.env.builtins=builtinsNs
 above:X.s₀.heap.objs.size≤X.env.locals
 inj:∀ x y c,X.env.cells.lookup x=some c→X.env.cells.lookup y=some c→x=y
 has:∀ x,(X.env.kindOf x=some .cell∨X.env.kindOf x=some .free)→∃ c,X.env.cells.lookup x=some c
 cab:∀ x c,X.fn x=true→X.env.cells.lookup x=some c→X.s₀.heap.objs.size≤c
 hd:X.calm=true→X.A.handled=none
 frames:X.A.frames=some X.stack
 stk:X.stack=X.outer∨(X.stack=X.env::X.outer∧X.env.frame=some X.env.locals)
 exf:∀ b∈X.ex,b≠X.env.locals∧∀ x c,X.env.cells.lookup x=some c→c≠b
 bs:∀ b o,X.base.get? b=some o→X.s₀.heap.get? b=some o∧Kpt X.H₀ b o
 bsz:X.base.objs.size≤X.s₀.heap.objs.size
 noex:∀ b o,X.base.get? b=some o→b∉X.ex
 exfs:∀ b∈X.ex,b∉X.fs
 iR:X.s₀.heap.FunFrames X.base X.outer
 frf:∀ b∈X.fs,X.H₀ b=none
 tb:TabsAt X.base X.H₀
structure Inv (X:Cx) (pins:List (Addr×Obj)) (σ:List (Option V)) (H:Hp) (s:Shared):Prop where
 ok:X.Ok
 os:s.os=X.s₀.os
 bare:AllBare s.gens
 base:Un X.fs X.ex X.H₀ H X.s₀.heap s.heap
 loc:∃ m,s.heap.Ns X.env.locals m∧∀ (i:Nat) (x:Str) (v:V),X.N[i]?=some x→σ[i]?=some (some v)→Vis X.env.scope x→∃ u,RelV v u∧Look X.env s.heap m x u
 cell:∀ x c,X.env.cells.lookup x=some c→∃ v,s.heap.IsCell c v
 free:H X.env.locals=none
 freeC:∀ x c,X.env.cells.lookup x=some c→H c=none
 pin:∀ p∈X.pn++pins,s.heap.get? p.1=some p.2∧H p.1=none∧p.1≠X.env.locals∧p.1∉X.fs∧∀ v,p.2.data≠.cell v
 hok:HOk X.prog X.w H s.heap
 len:σ.length=X.N.length
section
variable {X:Cx} {pins:List (Addr×Obj)} {σ:List (Option V)} {H H':Hp} {s:Shared} {h':Heap}
theorem Cx.Ok.GI (ok:X.Ok) {b:Addr} {o:Obj} (e:X.base.get? b=some o):b∉X.fs:=fun hb=>by
 have:=(ok.iR.mem hb).1
 rw[e] at this;cases this
theorem Inv.bs (I:Inv X pins σ H s):∀ b o,X.base.get? b=some o→s.heap.get? b=some o∧Kpt H b o:=fun b o e=>by
 obtain⟨h1,h2 | ⟨⟨u,h2⟩,h3⟩⟩:=I.ok.bs b o e
 ·exact⟨I.base.keep b o h1 h2 (I.ok.GI e) (I.ok.noex b o e),.inl (I.base.free b o h1 h2 (I.ok.noex b o e))⟩
 ·have q:=I.base.frzs b o u h2
  obtain⟨z,_⟩:=I.hok b _ q
  exact⟨z,.inr ⟨⟨u,q⟩,h3⟩⟩
theorem TabsAt.un {base:Heap} {fs ex:List Addr} {H H':Hp} {h h':Heap} (x:TabsAt base H) (u:Un fs ex H H' h h'):TabsAt base H':=fun P q r=>by
 obtain⟨ps,t,e1,e2⟩:=x P q r
 obtain⟨m,e3⟩:=u.tbls P ps e1
 exact⟨_,t,e3,by rw[Array.getElem?_append_left (by obtain⟨z,_⟩:=Array.getElem?_eq_some_iff.mp e2;exact z)];exact e2⟩
theorem Inv.tb (I:Inv X pins σ H s):TabsAt X.base H:=I.ok.tb.un I.base
theorem Inv.bk (I:Inv X pins σ H s):∀ b o,X.base.get? b=some o→s.heap.get? b=some o:=fun b o e=>(I.bs b o e).1
theorem Inv.mod (I:Inv X pins σ H s):Mod X.K X.mg X.base:=I.ok.mod
theorem Inv.kIn (I:Inv X pins σ H s):X.K.In s.heap:=I.ok.mod.kin.keeps I.bk
theorem Inv.lt (I:Inv X pins σ H s):X.env.locals < s.heap.objs.size:=let ⟨_,hn,_⟩:=I.loc;hn.lt
theorem Inv.sz (I:Inv X pins σ H s):X.s₀.heap.objs.size≤s.heap.objs.size:=Nat.le_trans I.ok.above (Nat.le_of_lt I.lt)
theorem Inv.GH (I:Inv X pins σ H s) {a:Addr} (h:s.heap.objs.size≤a):a∉X.fs:=fun hb=>by
 obtain⟨_,o,ho,_⟩:=I.ok.iR.mem hb
 exact absurd (Nat.lt_of_lt_of_le (Heap.lt_size ho) (Nat.le_trans I.sz h)) (Nat.lt_irrefl _)
theorem Inv.cne (I:Inv X pins σ H s):∀ x c,X.env.cells.lookup x=some c→c≠X.env.locals:=fun x c e z=>by
 obtain⟨v,o,ho,hd⟩:=I.cell x c e
 obtain⟨m,⟨o',es,ep,ho',hd',_⟩,_⟩:=I.loc
 rw[z,ho'] at ho;cases ho;rw[hd'] at hd;cases hd
theorem Inv.iR (I:Inv X pins σ H s):s.heap.FunFrames X.base X.outer:=by
 have all:∀ (l:List Env),(∀ b∈frs l,b∈X.fs)→X.s₀.heap.FunFrames X.base l→s.heap.FunFrames X.base l:=by
  intro l
  induction l with
  | nil=>intro _ _;trivial
  | cons env r ih=>
   intro hs hl
   obtain⟨hk,⟨L,o,hf,hn,ho,hd⟩,hr⟩:=hl
   have hL:L∈X.fs:=hs L (by unfold frs;rw[List.filterMap_cons,hf];exact List.mem_cons_self)
   obtain⟨sl,e⟩:=I.base.slot L o ho (I.ok.frf L hL) hL fun z=>I.ok.exfs L z hL
   exact⟨hk,⟨L,_,hf,hn,e,hd⟩,ih (fun b hb=>hs b (by unfold frs;rw[List.filterMap_cons,hf];exact List.mem_cons_of_mem _ hb)) hr⟩
 exact all X.outer (fun _ hb=>hb) I.ok.iR
theorem Inv.stack (I:Inv X pins σ H s):s.heap.FunFrames X.base X.stack:=by
 rcases I.ok.stk with e | ⟨e,hf⟩
 ·rw[e];exact I.iR
 ·rw[e]
  obtain⟨m,hn,_⟩:=I.loc
  refine .cons (by rw[I.ok.kind];decide) hf hn ?_ I.iR
  exact Heap.get?_none_of_le (Nat.le_trans I.ok.bsz I.ok.above)
theorem Inv.pT (I:Inv X pins σ H s):∀ b∈frs X.stack,b∈X.env.locals::X.fs:=fun b hb=>by
 rcases I.ok.stk with e | ⟨e,hf⟩
 ·rw[e] at hb;exact List.mem_cons_of_mem _ hb
 ·rw[e] at hb
  unfold frs at hb
  rw[List.filterMap_cons,hf] at hb
  exact hb
theorem Inv.pU (I:Inv X pins σ H s):∀ b∈frs X.stack,H b=none:=fun b hb=>by
 rcases List.mem_cons.mp (I.pT b hb) with e | hb
 ·rw[e];exact I.free
 ·obtain⟨_,o,ho,_⟩:=I.ok.iR.mem hb
  exact I.base.free b o ho (I.ok.frf b hb) fun z=>I.ok.exfs b z hb
theorem Inv.step {g':Array GenState} {t':Nat} {d':Drawn} {ch:List Addr} (I:Inv X pins σ H s)
  (hch:∀ b∈ch,(b∈X.ex∨X.s₀.heap.objs.size≤b)∧b≠X.env.locals∧(∀ x c,X.env.cells.lookup x=some c→c≠b)∧∀ p∈X.pn++pins,p.1≠b)
  (keep:∀ b o,b≠X.env.locals→b∉X.fs→b∉ch→s.heap.get? b=some o→H b=none→h'.get? b=some o)
  (slot:∀ b o,b≠X.env.locals→b∈X.fs→b∉ch→s.heap.get? b=some o→H b=none→∃ sl,h'.get? b=some { o with slots:=sl }) (free:∀ b o,b∉ch→s.heap.get? b=some o→H b=none→H' b=none)
  (there:∀ b o,b∉ch→s.heap.get? b=some o→∃ o',h'.get? b=some o')
  (tups:∀ b xs,H b=some (.tup xs)→H' b=some (.tup xs)) (frzs:∀ b o u,H b=some (.frz o u)→H' b=some (.frz o u)) (tbls:∀ b ps,H b=some (.tbl ps)→∃ more,H' b=some (.tbl (ps++more)))
  (ns:∀ m,s.heap.Ns X.env.locals m→h'.Ns X.env.locals m) (hok:HOk X.prog X.w H' h') (hg:AllBare g') :
  Inv X pins σ H' { s with heap:=h',gens:=g',drawn:=d',toks:=t' }:=by
 have neL:∀ b o,X.s₀.heap.get? b=some o→b≠X.env.locals:=fun b o e=>Nat.ne_of_lt (Nat.lt_of_lt_of_le (Heap.lt_size e) I.ok.above)
 have neC:∀ b o,X.s₀.heap.get? b=some o→b∉X.ex→b∉ch:=fun b o e hx hb=>by
  rcases(hch b hb).1 with z | z
  ·exact hx z
  ·exact absurd (Nat.lt_of_lt_of_le (Heap.lt_size e) z) (Nat.lt_irrefl _)
 have cellK:∀ x c,X.env.cells.lookup x=some c→∀ v,s.heap.IsCell c v→h'.IsCell c v:=fun x c e v ⟨o,ho,hd⟩=>by
  have nch:c∉ch:=fun z=>(hch c z).2.2.1 x c e rfl
  by_cases hc:c∈X.fs
  ·obtain⟨sl,q⟩:=slot c o (I.cne x c e) hc nch ho (I.freeC x c e)
   exact⟨_,q,hd⟩
  ·exact⟨o,keep c o (I.cne x c e) hc nch ho (I.freeC x c e),hd⟩
 refine⟨I.ok,I.os,hg,⟨fun b o e n hb hx=>?_,fun b o e n hb hx=>?_,fun b o e n hx=>?_,fun b o e hx=>?_,fun b xs e=>tups b xs (I.base.tups b xs e),fun b o xs e=>frzs b o xs (I.base.frzs b o xs e),fun b ps e=>?_⟩,?_,fun x c e=>?_,?_,fun x c e=>?_,fun p hp=>?_,hok,I.len⟩
 ·exact keep b o (neL b o e) hb (neC b o e hx) (I.base.keep b o e n hb hx) (I.base.free b o e n hx)
 ·obtain⟨sl,e1⟩:=I.base.slot b o e n hb hx
  obtain⟨sl',e2⟩:=slot b _ (neL b o e) hb (neC b o e hx) e1 (I.base.free b o e n hx)
  exact⟨sl',e2⟩
 ·obtain⟨o',e1⟩:=I.base.there b o e hx
  exact free b o' (neC b o e hx) e1 (I.base.free b o e n hx)
 ·obtain⟨o',e1⟩:=I.base.there b o e hx
  exact there b o' (neC b o e hx) e1
 ·obtain⟨m1,e1⟩:=I.base.tbls b ps e
  obtain⟨m2,e2⟩:=tbls b _ e1
  exact⟨m1++m2,by rw[e2,Array.append_assoc]⟩
 ·obtain⟨m,hn,hl⟩:=I.loc
  refine⟨m,ns m hn,fun i x v e1 e2 e3=>?_⟩
  obtain⟨u,r,l⟩:=hl i x v e1 e2 e3
  refine⟨u,r,?_⟩
  rcases l with l | ⟨k,c,e,z⟩
  ·exact .inl l
  ·exact .inr ⟨k,c,e,cellK x c e _ z⟩
 ·obtain⟨v,z⟩:=I.cell x c e
  exact⟨v,cellK x c e v z⟩
 ·obtain⟨m,⟨o,_,_,ho,_⟩,_⟩:=I.loc
  exact free _ o (fun z=>(hch _ z).2.1 rfl) ho I.free
 ·obtain⟨v,o,ho,hd⟩:=I.cell x c e
  exact free c o (fun z=>(hch c z).2.2.1 x c e rfl) ho (I.freeC x c e)
 ·obtain⟨e,n,ne,nf,d⟩:=I.pin p hp
  have nch:p.1∉ch:=fun z=>(hch p.1 z).2.2.2 p hp rfl
  exact⟨keep p.1 p.2 ne nf nch e n,free p.1 p.2 nch e n,ne,nf,d⟩
theorem Inv.un {t':Nat} (I:Inv X pins σ H s) (u:Un X.fs [] H H' s.heap h') (hok:HOk X.prog X.w H' h'):Inv X pins σ H' { s with heap:=h',toks:=t' }:=by
 obtain⟨m,⟨o,es,ep,ho,r⟩,_⟩:=id I.loc
 obtain⟨sl,hL⟩:=u.any ho I.free (by simp)
 exact I.step (g':=s.gens) (d':=s.drawn) (ch:=[]) (fun _ z=>nomatch z) (fun b o _ hb _ e n=>u.keep b o e n hb (by simp)) (fun b o _ hb _ e n=>u.slot b o e n hb (by simp)) (fun b o _ e n=>u.free b o e n (by simp)) (fun b o _ e=>u.there b o e (by simp)) u.tups u.frzs u.tbls (fun m' hm=>by
  obtain⟨o',es',ep',ho',r'⟩:=hm
  rw[ho] at ho';cases ho'
  exact⟨_,es',ep',hL,r'⟩) hok I.bare
theorem Inv.call {g':Array GenState} {t':Nat} {d':Drawn} {ch:List Addr} (I:Inv X pins σ H s) (u:Un (frs X.stack) ch H H' s.heap h') (hok:HOk X.prog X.w H' h') (hg:AllBare g')
  (hch:∀ b∈ch,(b∈X.ex∨X.s₀.heap.objs.size≤b)∧b≠X.env.locals∧(∀ x c,X.env.cells.lookup x=some c→c≠b)∧∀ p∈X.pn++pins,p.1≠b) :
  Inv X pins σ H' { s with heap:=h',gens:=g',drawn:=d',toks:=t' }:=by
 obtain⟨m,⟨o,es,ep,ho,r⟩,_⟩:=id I.loc
 obtain⟨sl,hL⟩:=u.any ho I.free fun z=>(hch _ z).2.1 rfl
 exact I.step (ch:=ch) hch (fun b o hL hb hc e n=>u.keep b o e n (fun z=>(List.mem_cons.mp (I.pT b z)).elim hL hb) hc) (fun b o _ _ hc e n=>u.any e n hc) (fun b o hc e n=>u.free b o e n hc) (fun b o hc e=>u.there b o e hc) u.tups u.frzs u.tbls (fun m' hm=>by
  obtain⟨o',es',ep',ho',r'⟩:=hm
  rw[ho] at ho';cases ho'
  exact⟨_,es',ep',hL,r'⟩) hok hg
theorem Inv.turned {t':Nat} {it:Addr} (I:Inv X pins σ H s) (k:∀ b o,b≠it→s.heap.get? b=some o→h'.get? b=some o) (hn:H it=none) (hL:it≠X.env.locals)
  (h1:it∈X.ex∨X.s₀.heap.objs.size≤it) (h2:∀ x c,X.env.cells.lookup x=some c→c≠it) (h3:∀ p∈X.pn++pins,p.1≠it):Inv X pins σ H { s with heap:=h',toks:=t' }:=by
 have nit:∀ b u,H b=some u→b≠it:=fun b u e z=>by rw[z,hn] at e;cases e
 refine I.step (g':=s.gens) (d':=s.drawn) (ch:=[it]) (fun b hb=>?_) (fun b o _ _ hc e _=>k b o (fun z=>hc (by simp [z])) e) (fun b o _ _ hc e _=>⟨o.slots,k b o (fun z=>hc (by simp [z])) e⟩) (fun _ _ _ _ n=>n)
  (fun b o hc e=>⟨o,k b o (fun z=>hc (by simp [z])) e⟩) (fun _ _ e=>e) (fun _ _ _ e=>e) (fun b ps e=>⟨#[],by rw[e];simp⟩) (fun m hm=>?_) (fun b u e=>?_) I.bare
 ·have e:b=it:=by simpa using hb
  subst e
  exact⟨h1,hL,h2,h3⟩
 ·obtain⟨o,es,ep,ho,r⟩:=hm
  exact⟨o,es,ep,k _ o (Ne.symm hL) ho,r⟩
 ·refine(I.hok b u e).j8 (fun c v hc q=>k c v ?_ q) (fun _ q=>q) fun _ _ q=>q
  rcases hc with z | z
  ·rw[z];exact nit b u e
  ·exact nit c _ z
theorem Inv.tok (I:Inv X pins σ H s) (t:Nat):Inv X pins σ H { s with toks:=t }:=I.un (h':=s.heap) (t':=t) Un.refl I.hok
theorem Inv.kept {t':Nat} (I:Inv X pins σ H s) (k:∀ b u,s.heap.get? b=some u→h'.get? b=some u):Inv X pins σ H { s with heap:=h',toks:=t' }:=I.un (Un.kept k) (I.hok.kept k)
theorem Inv.laid {a:Addr} {o:HO} {t':Nat} (I:Inv X pins σ H s) (k:∀ b u,s.heap.get? b=some u→h'.get? b=some u) (hp:s.heap.objs.size≤a) (new:bX X.prog X.w (upd H a o) h' a o) :
  Inv X pins σ (upd H a o) { s with heap:=h',toks:=t' }:=I.un (Un.laid k hp (I.hok.fresh hp)) (I.hok.laid k hp new)
theorem Inv.write {x e:Addr} {o:HO} {t':Nat} (I:Inv X pins σ H s) (mu:Mut (H x)) (he:e=x∨H e=some (.own x)) (k:∀ b u,b≠e→s.heap.get? b=some u→h'.get? b=some u) (heo:∃ u,h'.get? e=some u)
  (new:bX X.prog X.w (upd H x o) h' x o):Inv X pins σ (upd H x o) { s with heap:=h',toks:=t' }:=I.un (Un.write mu he k heo) (I.hok.write mu he k heo new)
theorem Inv.gp {pins':List (Addr×Obj)} (I:Inv X pins σ H s) (h:∀ p∈pins',s.heap.get? p.1=some p.2∧H p.1=none∧p.1≠X.env.locals∧p.1∉X.fs∧∀ v,p.2.data≠.cell v):Inv X pins' σ H s:=
 ⟨I.ok,I.os,I.bare,I.base,I.loc,I.cell,I.free,I.freeC,fun p hp=>(List.mem_append.mp hp).elim (fun z=>I.pin p (List.mem_append_left _ z)) (h p),I.hok,I.len⟩
theorem nB {N:List Str} (hN:N.Nodup) {i j:Nat} {x:Str} (a:N[i]?=some x) (b:N[j]?=some x):i=j:=by
 obtain⟨h1,e1⟩:=List.getElem?_eq_some_iff.mp a
 obtain⟨h2,e2⟩:=List.getElem?_eq_some_iff.mp b
 exact(List.getElem_inj hN).mp (e1.trans e2.symm)
theorem oE {M:Model} {A:Around} {E:Value→Shared→Prop} {i:Nat} {x:Str} {v:V} {u:Value} {Q:Unit→Shared→Prop} (I:Inv X pins σ H s) (hN:X.N.Nodup) (hi:X.N[i]?=some x) (hx:Loc X.env.scope x) (r:RelV v u)
  (h:∀ s',Inv X pins (σ.set i (some v)) H s'→(∃ a,Heap.SameBut a s.heap s'.heap∧(a=X.env.locals∨X.env.cells.lookup x=some a))→Q () s') (hf:X.fn x=true∨X.env.scope.names.lookup x=some .local:=by first | exact .inl rfl | exact .inr rfl | assumption):wpAny M A (storeName X.env x u) Q E s:=by
 obtain⟨m,hn,hl⟩:=id I.loc
 have hcls:(X.env.scope.kind == .class || (X.env.scope.kind == .module && X.env.locals != X.env.globals))=false:=by rw[I.ok.kind];rfl
 have hiσ:i < σ.length:=by rw[I.len];exact(List.getElem?_eq_some_iff.mp hi).1
 have cne:=I.cne
 have tracked:∀ {a:Addr} {h':Heap},(∃ o,s.heap.get? a=some o∧H a=none)→Heap.SameBut a s.heap h'→HOk X.prog X.w H h':=fun {a h'} ha hs b ob e=>by
  obtain⟨_,_,hfree⟩:=ha
  refine(I.hok b ob e).j8 (fun c w' hc q=>(hs.2 c ?_).trans q) (fun _ q=>q) fun _ _ q=>q
  rintro rfl
  rcases hc with rfl | hc
  ·rw[hfree] at e;cases e
  ·rw[hfree] at hc;cases hc
 rcases hx with hk | hk
 ·refine wpAny_storeName_local hk hn (fun h' hn' hs=>?_) hcls
  obtain⟨oL,_,_,hoL,_⟩:=id hn
  refine h _ ⟨I.ok,I.os,I.bare,⟨fun b o e n hb hx=>?_,fun b o e n hb hx=>?_,I.base.free,fun b o e hx=>?_,I.base.tups,I.base.frzs,I.base.tbls⟩,⟨_,hn',fun j y v' e1 e2 e3=>?_⟩,fun y c e=>?_,I.free,I.freeC,fun p hp=>?_,tracked ⟨oL,hoL,I.free⟩ hs,by simpa using I.len⟩ ⟨_,hs,.inl rfl⟩
  ·exact(hs.2 b (Nat.ne_of_lt (Nat.lt_of_lt_of_le (Heap.lt_size e) I.ok.above))).trans (I.base.keep b o e n hb hx)
  ·obtain⟨sl,e1⟩:=I.base.slot b o e n hb hx
   exact⟨sl,(hs.2 b (Nat.ne_of_lt (Nat.lt_of_lt_of_le (Heap.lt_size e) I.ok.above))).trans e1⟩
  ·obtain⟨o',e1⟩:=I.base.there b o e hx
   exact⟨o',(hs.2 b (Nat.ne_of_lt (Nat.lt_of_lt_of_le (Heap.lt_size e) I.ok.above))).trans e1⟩
  ·by_cases hj:j=i
   ·subst hj
    rw[hi] at e1;cases e1
    rw[List.getElem?_set_self hiσ] at e2
    cases e2
    exact⟨u,r,.inl ⟨hk,by simp⟩⟩
   ·rw[List.getElem?_set_ne (Ne.symm hj)] at e2
    obtain⟨u',r',q⟩:=hl j y v' e1 e2 e3
    refine⟨u',r',?_⟩
    rcases q with ⟨k,e⟩ | ⟨k,c,e,z⟩
    ·refine .inl ⟨k,?_⟩
     have:y≠x:=fun e=>hj (nB hN e1 (e ▸ hi))
     simp [this,e]
    ·exact .inr ⟨k,c,e,z.sameBut hs (cne y c e)⟩
  ·obtain⟨w',z⟩:=I.cell y c e
   exact⟨w',z.sameBut hs (cne y c e)⟩
  ·obtain⟨e,n,ne,nf,d⟩:=I.pin p hp
   exact⟨(hs.2 p.1 ne).trans e,n,ne,nf,d⟩
 ·have hfn:X.fn x=true:=by
   rcases hf with z | z
   ·exact z
   ·rw[z] at hk;cases hk
  obtain⟨c,hc⟩:=I.ok.has x (.inl hk)
  obtain⟨w',z⟩:=I.cell x c hc
  refine wpAny_storeName_cell I.ok.kind hk hc z (fun h' hc' hs=>?_)
  obtain⟨oc,hoc,hocd⟩:=id z
  refine h { s with heap:=h' } ⟨I.ok,I.os,I.bare,⟨fun b o e n hb hx=>?_,fun b o e n hb hx=>?_,I.base.free,fun b o e hx=>?_,I.base.tups,I.base.frzs,I.base.tbls⟩,⟨m,hn.sameBut hs (Ne.symm (cne x c hc)),fun j y v' e1 e2 e3=>?_⟩,fun y c' e=>?_,I.free,I.freeC,fun p hp=>?_,tracked ⟨oc,hoc,I.freeC x c hc⟩ hs,by simpa using I.len⟩ ⟨c,hs,.inr hc⟩
  ·exact(hs.2 b (Nat.ne_of_lt (Nat.lt_of_lt_of_le (Heap.lt_size e) (I.ok.cab x c hfn hc)))).trans (I.base.keep b o e n hb hx)
  ·obtain⟨sl,e1⟩:=I.base.slot b o e n hb hx
   exact⟨sl,(hs.2 b (Nat.ne_of_lt (Nat.lt_of_lt_of_le (Heap.lt_size e) (I.ok.cab x c hfn hc)))).trans e1⟩
  ·obtain⟨o',e1⟩:=I.base.there b o e hx
   exact⟨o',(hs.2 b (Nat.ne_of_lt (Nat.lt_of_lt_of_le (Heap.lt_size e) (I.ok.cab x c hfn hc)))).trans e1⟩
  ·by_cases hj:j=i
   ·subst hj
    rw[hi] at e1;cases e1
    rw[List.getElem?_set_self hiσ] at e2
    cases e2
    exact⟨u,r,.inr ⟨.inl hk,c,hc,hc'⟩⟩
   ·rw[List.getElem?_set_ne (Ne.symm hj)] at e2
    obtain⟨u',r',q⟩:=hl j y v' e1 e2 e3
    refine⟨u',r',?_⟩
    rcases q with q | ⟨k,c',e,z'⟩
    ·exact .inl q
    ·refine .inr ⟨k,c',e,z'.sameBut hs ?_⟩
     rintro rfl
     exact hj (nB hN e1 (I.ok.inj _ _ _ e hc ▸ hi))
  ·by_cases hcc:c'=c
   ·subst hcc;exact⟨_,hc'⟩
   ·obtain⟨w2,z2⟩:=I.cell y c' e
    exact⟨w2,z2.sameBut hs hcc⟩
  ·obtain⟨e,n,ne,nf,d⟩:=I.pin p hp
   refine⟨(hs.2 p.1 ?_).trans e,n,ne,nf,d⟩
   intro q
   rw[q,hoc] at e
   have q':oc=p.2:=Option.some.inj e
   exact d w' (by rw[← q'];exact hocd)
theorem mU {M:Model} {A:Around} {E:Value→Shared→Prop} {i:Nat} {x:Str} {v:V} {u:Value} {Q:Unit→Shared→Prop} (I:Inv X pins σ H s) (hN:X.N.Nodup) (hi:X.N[i]?=some x) (hx:Loc X.env.scope x) (r:RelV v u)
  (h:∀ s',Inv X pins (σ.set i (some v)) H s'→Q () s') (hf:X.fn x=true∨X.env.scope.names.lookup x=some .local:=by first | exact .inl rfl | exact .inr rfl | assumption):wpAny M A (storeName X.env x u) Q E s:=
 oE I hN hi hx r (fun s' I' _=>h s' I') hf
theorem Inv.vb {s':Shared} {ch:List Addr} (I:Inv X pins σ H s) (ho:s'.os=s.os) (u:Un (frs X.stack) ch H H' s.heap s'.heap) (hok:HOk X.prog X.w H' s'.heap) (hg:AllBare s'.gens)
  (hch:∀ b∈ch,(b∈X.ex∨X.s₀.heap.objs.size≤b)∧b≠X.env.locals∧(∀ x c,X.env.cells.lookup x=some c→c≠b)∧∀ p∈X.pn++pins,p.1≠b):Inv X pins σ H' s':=by
 obtain⟨h',g',d',t',o'⟩:=s'
 have e:o'=s.os:=ho
 subst e
 exact I.call (g':=g') (t':=t') (d':=d') u hok hg hch
end
abbrev XK:=Value→Option Addr→Hp→Prop
abbrev St:=List (Option V)
abbrev VK:=V→Hp→Prop
abbrev TE:=St→Hp→VK→Prop
abbrev TT:=St→Hp→(Bool→Hp→Prop)→Prop
abbrev TA:=St→Hp→(List V→Hp→Prop)→Prop
structure Ends where
 nx:St→Hp→Prop
 rt:VK
 bk:St→Hp→Prop:=fun _ _=>False
 ct:St→Hp→Prop:=fun _ _=>False
abbrev TS:=Ends→St→Hp→Prop
def EP (X:Cx) (pins:List (Addr×Obj)) (σ:St) (Q:VK) (u:Value) (s':Shared):Prop:=∃ v H',Inv X pins σ H' s'∧RelV v u∧Q v H'
def TP (X:Cx) (pins:List (Addr×Obj)) (σ:St) (Q:Bool→Hp→Prop) (b:Bool) (s':Shared):Prop:=∃ H',Inv X pins σ H' s'∧Q b H'
def AP (X:Cx) (pins:List (Addr×Obj)) (σ:St) (Q:List V→Hp→Prop) (us:List Value) (s':Shared):Prop:=∃ vs H',Inv X pins σ H' s'∧Vals vs us∧Q vs H'
def SP (X:Cx) (pins:List (Addr×Obj)) (D:Ends) (f:Flow) (s':Shared):Prop:=
 match f with
 | .next=>∃ σ' H',Inv X pins σ' H' s'∧D.nx σ' H'
 | .brk=>∃ σ' H',Inv X pins σ' H' s'∧D.bk σ' H'
 | .cont=>∃ σ' H',Inv X pins σ' H' s'∧D.ct σ' H'
 | .ret u=>∃ v σ' H',Inv X pins σ' H' s'∧RelV v u∧D.rt v H'
def PE (X:Cx) (e:Expr) (t:TE):Prop:=
 ∀ (pins:List (Addr×Obj)) (s:Shared) (σ:St) (H:Hp) (Q:VK),Inv X pins σ H s→t σ H Q→wpAny (model X.prog X.w) X.A (eval e X.env) (EP X pins σ Q) X.xe s
def PT (X:Cx) (e:Expr) (t:TT):Prop:=
 ∀ (pins:List (Addr×Obj)) (s:Shared) (σ:St) (H:Hp) (Q:Bool→Hp→Prop),Inv X pins σ H s→t σ H Q→wpAny (model X.prog X.w) X.A (isTrue e X.env (eval e X.env)) (TP X pins σ Q) X.xe s
def PW (X:Cx) (e:Expr) (t:TT):Prop:=
 ∀ (whole:Sem Value) (pins:List (Addr×Obj)) (s:Shared) (σ:St) (H:Hp) (Q:Bool→Hp→Prop),Inv X pins σ H s→t σ H Q→wpAny (model X.prog X.w) X.A (isTrue e X.env whole) (TP X pins σ Q) X.xe s
theorem PW.pt {X:Cx} {e:Expr} {t:TT} (h:PW X e t):PT X e t:=h _
def PA (X:Cx) (es:List Expr) (t:TA):Prop:=
 ∀ (pos:Pos) (pins:List (Addr×Obj)) (s:Shared) (σ:St) (H:Hp) (Q:List V→Hp→Prop),Inv X pins σ H s→t σ H Q→wpAny (model X.prog X.w) X.A (spliced (backTo pos (starEach es X.env))) (AP X pins σ Q) X.xe s
def PS (X:Cx) (st:Stmt) (t:TS):Prop:=
 ∀ (pins:List (Addr×Obj)) (s:Shared) (σ:St) (H:Hp) (D:Ends),Inv X pins σ H s→t D σ H→wpAny (model X.prog X.w) X.A (exec st X.env) (SP X pins D) X.xe s
def PSs (X:Cx) (st:List Stmt) (t:TS):Prop:=
 ∀ (pins:List (Addr×Obj)) (s:Shared) (σ:St) (H:Hp) (D:Ends),Inv X pins σ H s→t D σ H→wpAny (model X.prog X.w) X.A (execs st X.env) (SP X pins D) X.xe s
theorem thn {α:Type} {t:Sem α} {Q Q':α→Shared→Prop} {M:Model} {A:Around} {E:Value→Shared→Prop} {s:Shared} (h:wpAny M A t Q E s) (hQ:∀ a s,Q a s→Q' a s):wpAny M A t Q' E s:=wpAny_mono h hQ fun _ _ x=>x
end L2
namespace L2
open PySem PySem.Spec PyProof.Rows
section
variable {X:Cx}
theorem bin {a b:Expr} {ta tb:TE} (ha:PE X a ta) (hb:PE X b tb) {pins:List (Addr×Obj)} {s:Shared} {σ:St} {H:Hp} {R:V→V→Hp→Prop} (I:Inv X pins σ H s) (h:ta σ H fun x H1=>tb σ H1 fun y H2=>R x y H2)
  {α:Type} {Q:α→Shared→Prop} {f:Value→Value→Sem α}
  (hf:∀ v u s2 x y H2,Inv X pins σ H2 s2→RelV x v→RelV y u→R x y H2→wpAny (model X.prog X.w) X.A (f v u) Q X.xe s2) :
  wpAny (model X.prog X.w) X.A (eval a X.env) (fun v s₁=>wpAny (model X.prog X.w) X.A (eval b X.env) (fun u s₂=>wpAny (model X.prog X.w) X.A (f v u) Q X.xe s₂) X.xe s₁) X.xe s:=by
 refine thn (ha pins s σ H _ I h) fun v s1 ⟨x,H1,I1,r1,q1⟩=>?_
 refine thn (hb pins s1 σ H1 _ I1 q1) fun u s2 ⟨y,H2,I2,r2,q2⟩=>?_
 exact hf v u s2 x y H2 I2 r1 r2 q2
def iQ (i:Nat):TE:=fun σ H Q=>∃ v,σ[i]?=some (some v)∧Q v H
def tC (v:V):TE:=fun _ H Q=>Q v H
theorem cL {i:Nat} {x:Str} {pos:Pos} (hN:X.N[i]?=some x) (hv:Vis X.env.scope x) (hd:(x == ("__debug__":Str))=false:=by decide) (hcd:(x == ("__classdict__":Str))=false:=by decide):PE X (.Name x pos) (iQ i):=by
 intro pins s σ H Q I h
 obtain⟨v,e,h⟩:=h
 obtain⟨m,hn,hl⟩:=I.loc
 obtain⟨u,r,l⟩:=hl i x v hN e hv
 have fin:EP X pins σ Q u s:=⟨v,H,I,r,h⟩
 rcases l with ⟨hk,hm⟩ | ⟨hk,c,hc,hcell⟩
 ·exact wpAny_Name (wpAny_loadName_local I.ok.kind hk hn hm fin) hd
 ·rcases hk with hk | hk
  ·exact wpAny_Name (wpAny_loadName_cell I.ok.kind hk hc hcell fin) hd
  ·exact wpAny_Name (wpAny_loadName_free I.ok.kind hk hc hcell fin hcd) hd
theorem sZ {i j pos}:PE X (.Constant (.int i) j pos) (tC (.int i)):=fun _ _ _ H _ I h=>wpAny_Constant_int ⟨.int i,H,I.tok _,⟨_,rfl⟩,h⟩
theorem ET {b j pos}:PE X (.Constant (.bool b) j pos) (tC (.bl b)):=fun _ _ _ H _ I h=>Constant_bool ⟨.bl b,H,I,rfl,h⟩
theorem C2 {j pos}:PE X (.Constant .none j pos) (tC .non):=fun _ _ _ H _ I h=>Constant_none ⟨.non,H,I,rfl,h⟩
theorem qh {x j pos}:PE X (.Constant (.str x) j pos) (tC (.str x)):=fun _ _ _ H _ I h=>Calls.Constant_str ⟨.str x,H,I.tok _,⟨_,rfl⟩,h⟩
def Gl (X:Cx) (x:Str):Prop:=X.env.kindOf x=some .globalImplicit
theorem gz {E:Value→Shared→Prop} {pins:List (Addr×Obj)} {s:Shared} {σ:St} {H:Hp} {x:Str} {u:Value} {pos:Pos} {Q:Value→Shared→Prop} (I:Inv X pins σ H s) (hg:Gl X x) (hm:X.mg x=some u) (h:Q u s)
  (hd:(x == ("__debug__":Str))=false:=by decide):wpAny (model X.prog X.w) X.A (eval (.Name x pos) X.env) Q E s:=
 Calls.Name_function_global I.ok.kind hg (Calls.loadGlobal_global (by rw[I.ok.glob];exact I.mod.glob.keeps I.bk) hm h) hd
theorem kf {E:Value→Shared→Prop} {pins:List (Addr×Obj)} {s:Shared} {σ:St} {H:Hp} {x:Str} {u:Value} {pos:Pos} {Q:Value→Shared→Prop} (I:Inv X pins σ H s) (hg:Gl X x) (hm:X.mg x=none) (hv:bootBuiltins x=some u) (h:Q u s)
  (hn:x≠"__name__":=by decide) (hd:(x == ("__debug__":Str))=false:=by decide):wpAny (model X.prog X.w) X.A (eval (.Name x pos) X.env) Q E s:=by
 obtain⟨mb,h1,h2⟩:=I.mod.blt
 exact Calls.Name_function_global I.ok.kind hg (Calls.loadGlobal_builtin (by rw[I.ok.glob];exact I.mod.glob.keeps I.bk) hm (by rw[I.ok.blt];exact h1.keeps I.bk) ((h2 x hn).trans hv) h) hd
theorem qi {x:Str} {v:V} {u:Value} {pos:Pos} (hg:Gl X x) (hm:X.mg x=some u) (r:RelV v u) (hd:(x == ("__debug__":Str))=false:=by decide):PE X (.Name x pos) (tC v):=
 fun _ _ _ H _ I h=>gz I hg hm ⟨v,H,I,r,h⟩ hd
theorem z8 {x:Str} {v:V} {u:Value} {pos:Pos} (hg:Gl X x) (hm:X.mg x=none) (hv:bootBuiltins x=some u) (r:RelV v u) (hn:x≠"__name__":=by decide) (hd:(x == ("__debug__":Str))=false:=by decide):PE X (.Name x pos) (tC v):=
 fun _ _ _ H _ I h=>kf I hg hm hv ⟨v,H,I,r,h⟩ hn hd
variable {a b:Expr} {ta tb:TE} {pos:Pos}
def PC (X:Cx) (op:CmpOp) (a b:Expr) (t:TE):Prop:=
 ∀ (pins:List (Addr×Obj)) (s:Shared) (σ:St) (H:Hp) (Q:VK),Inv X pins σ H s→t σ H Q→
  wpAny (model X.prog X.w) X.A (eval a X.env) (fun v s₁=>wpAny (model X.prog X.w) X.A (eval b X.env) (fun u s₂=>wpAny (model X.prog X.w) X.A (compareOp op v u) (EP X pins σ Q) X.xe s₂) X.xe s₁) X.xe s
def tB (t:TE):TT:=fun σ H Q=>t σ H fun x H1=>∃ c,x=.bl c∧Q c H1
theorem GD {op:CmpOp} {t:TE} (h:PC X op a b t) (h1:behindInMarks op b=false:=by first | exact nobehind _ (by decide) (by decide) | rfl):PT X (.Compare a [op] [b] pos) (tB t):=by
 intro pins s σ H Q I hw
 refine wpAny_isTrue_Compare1 (thn (h pins s σ H _ I hw) fun v s1 h1=>thn h1 fun u s2 h2=>thn h2 fun c s3 ⟨x,H1,I1,r1,q1⟩=>?_) h1
 obtain⟨d,rfl,q⟩:=q1
 cases r1
 exact wpAny_truthy_bool ⟨H1,I1,q⟩
theorem CN {e:Expr} {t:TE} (h:PE X e t) (he:∀ whole,isTrue e X.env whole=(do let v ← whole;standAt e.pos;holding [v] (truthy v)):=by intro _;rfl):PT X e (tB t):=by
 intro pins s σ H Q I hw
 refine isTrue_plain (thn (h pins s σ H _ I hw) fun v s1 ⟨x,H1,I1,r1,q1⟩=>?_) (he _)
 obtain⟨d,rfl,q⟩:=q1
 cases r1
 exact wpAny_truthy_bool ⟨H1,I1,q⟩
variable {tA tB':TT} {rest:List Expr}
def Cu (t u:TT):TT:=fun σ H Q=>t σ H fun c H1=>if c=true then u σ H1 Q else Q false H1
def tOr (t u:TT):TT:=fun σ H Q=>t σ H fun c H1=>if c=true then Q true H1 else u σ H1 Q
def Cr (t:TT):TT:=fun σ H Q=>t σ H fun c H1=>Q (!c) H1
theorem zN (ha:PT X a tA):PW X (.BoolOp .And [a] pos) tA:=by
 intro wh pins s σ H Q I h
 refine isTrue_and (thn (ha pins s σ H Q I h) fun c s1 e=>?_)
 cases c with
 | true=>exact isTrue_and_nil e
 | false=>exact e
theorem CL (ha:PT X a tA):PW X (.BoolOp .Or [a] pos) tA:=by
 intro wh pins s σ H Q I h
 refine isTrue_or (thn (ha pins s σ H Q I h) fun c s1 e=>?_)
 cases c with
 | false=>exact isTrue_or_nil e
 | true=>exact e
theorem CM (ha:PT X a tA) (hb:PW X (.BoolOp .And (b::rest) pos) tB'):PW X (.BoolOp .And (a::b::rest) pos) (Cu tA tB'):=by
 intro wh pins s σ H Q I h
 refine isTrue_and (thn (ha pins s σ H _ I h) fun c s1 ⟨H1,I1,q1⟩=>?_)
 cases c with
 | true=>exact hb wh pins s1 σ H1 Q I1 q1
 | false=>exact⟨H1,I1,q1⟩
theorem EL (ha:PT X a tA) (hb:PW X (.BoolOp .Or (b::rest) pos) tB'):PW X (.BoolOp .Or (a::b::rest) pos) (tOr tA tB'):=by
 intro wh pins s σ H Q I h
 refine isTrue_or (thn (ha pins s σ H _ I h) fun c s1 ⟨H1,I1,q1⟩=>?_)
 cases c with
 | true=>exact⟨H1,I1,q1⟩
 | false=>exact hb wh pins s1 σ H1 Q I1 q1
theorem CO (ha:PT X a tA):PT X (.UnaryOp .Not a pos) (Cr tA):=by
 intro pins s σ H Q I h
 exact isTrue_not (ha pins s σ H (fun c H1=>Q (!c) H1) I h)
def AZ (ta tb:TE):TE:=fun σ H Q=>ta σ H fun x H1=>∃ c,x=.bl c∧if c=true then tb σ H1 Q else Q (.bl false) H1
def AX (ta:TE):TE:=fun σ H Q=>ta σ H fun x H1=>∃ c,x=.bl c∧Q (.bl (!c)) H1
theorem CZ {op} {t:TE} (h:PE X a t):PE X (.BoolOp op [a] pos) t:=fun pins s σ H Q I hw=>BoolOp_one (h pins s σ H Q I hw)
theorem C5 (ha:PE X a ta) (hb:PE X (.BoolOp .And (b::rest) pos) tb):PE X (.BoolOp .And (a::b::rest) pos) (AZ ta tb):=by
 intro pins s σ H Q I h
 refine BoolOp_and (thn (ha pins s σ H _ I h) fun v s1 ⟨x,H1,I1,r1,q1⟩=>?_)
 obtain⟨c,rfl,q1⟩:=q1
 cases r1
 refine wpAny_truthy_bool ?_
 cases c with
 | true=>exact hb pins s1 σ H1 Q I1 q1
 | false=>exact⟨.bl false,H1,I1,rfl,q1⟩
theorem C1 (ha:PE X a ta):PE X (.UnaryOp .Not a pos) (AX ta):=by
 intro pins s σ H Q I h
 refine UnaryOp_ (thn (ha pins s σ H _ I h) fun v s1 ⟨x,H1,I1,r1,q1⟩=>?_)
 obtain⟨c,rfl,q1⟩:=q1
 cases r1
 exact not_of (wpAny_truthy_bool ⟨.bl (!c),H1,I1,rfl,q1⟩)
def tIf (t:TT) (ta tb:TE):TE:=fun σ H Q=>t σ H fun c H1=>if c=true then ta σ H1 Q else tb σ H1 Q
theorem xv {c:Expr} (hc:PT X c tA) (ha:PE X a ta) (hb:PE X b tb):PE X (.IfExp c a b pos) (tIf tA ta tb):=by
 intro pins s σ H Q I h
 refine wpAny_IfExp (thn (hc pins s σ H _ I h) fun d s1 ⟨H1,I1,q1⟩=>?_)
 cases d with
 | true=>exact ha pins s1 σ H1 Q I1 q1
 | false=>exact hb pins s1 σ H1 Q I1 q1
end
end L2
namespace L2
open PySem PySem.Spec PyProof.Rows
def SqL (K:PySem.W.Frag) (H:Hp) (a:Addr) (xs:List V):Prop:=
 Rd H a (.lst xs)∨
  ∃ (o:Obj) (its:Array Value) (n:Nat),K.lookup a=some o∧o.cls=.type "list"∧o.dict=none∧o.data=.seq its n∧its.size≤sizeLine∧Vals xs its.toList
def SqT (K:PySem.W.Frag) (H:Hp) (a:Addr) (xs:List V):Prop:=
 Rd H a (.tup xs)∨
  ∃ (o:Obj) (its:Array Value) (n:Nat),K.lookup a=some o∧o.cls=.type "tuple"∧o.data=.seq its n∧its.size≤sizeLine∧Vals xs its.toList
def G7:Value→Option V
 | .none=>some .non
 | .bool b=>some (.bl b)
 | .int i _=>some (.int i)
 | .str x _=>some (.str x)
 | .bytes b _=>some (.byt b)
 | .float b _=>some (.flt b)
 | .ref a=>some (.ref a)
 | .type n=>some (.ty n)
 | _=>none
theorem RelV.abs {x:V} {u:Value} (r:RelV x u):G7 u=some x:=by
 cases x with
 | non=>cases r;rfl
 | bl _=>cases r;rfl
 | int _=>obtain⟨t,rfl⟩:=r;rfl
 | str _=>obtain⟨t,rfl⟩:=r;rfl
 | byt _=>obtain⟨t,rfl⟩:=r;rfl
 | flt _=>obtain⟨t,rfl⟩:=r;rfl
 | ref _=>cases r;rfl
 | ty _=>cases r;rfl
theorem RelV.inj {x y:V} {u:Value} (r:RelV x u) (q:RelV y u):x=y:=Option.some.inj (r.abs.symm.trans q.abs)
theorem Vals.inj:∀ {xs ys:List V} {us:List Value},Vals xs us→Vals ys us→xs=ys
 | _,_,_,.nil,.nil=>rfl
 | _,_,_,.cons r t,.cons r' t'=>by rw[r.inj r',Vals.inj t t']
section
variable {X:Cx} {pins:List (Addr×Obj)} {σ:St} {H:Hp} {s:Shared} {a:Addr} {xs ys:List V}
theorem SqL.of {K:PySem.W.Frag} (h:H a=some (.lst xs)):SqL K H a xs:=.inl (.inl h)
theorem Inv.list (I:Inv X pins σ H s) (h:SqL X.K H a xs):∃ its:List Value,Vals xs its∧PlainL s.heap a its.toArray∧xs.length≤sizeLine:=by
 rcases h with h | ⟨o,its,n,hk,hc,hd,hs,hz,r⟩
 ·obtain⟨z,its,n,r,e⟩:=h.ok I.hok
  exact⟨its,r,⟨_,n,e,rfl,rfl,rfl⟩,z⟩
 ·refine⟨its.toList,r,⟨o,n,I.kIn a o hk,hc,hd,by simpa using hs⟩,?_⟩
  have e:=r.length
  simp only[Array.length_toList] at e
  omega
theorem Inv.tuple (I:Inv X pins σ H s) (h:SqT X.K H a xs):∃ its:List Value,Vals xs its∧IsTup s.heap a its.toArray∧xs.length≤sizeLine:=by
 rcases h with h | ⟨o,its,n,hk,hc,hs,hz,r⟩
 ·obtain⟨z,its,r,p⟩:=h.ok I.hok
  exact⟨its,r,p,z⟩
 ·refine⟨its.toList,r,⟨o,I.kIn a o hk,hc,n,by simpa using hs⟩,?_⟩
  have e:=r.length
  simp only[Array.length_toList] at e
  omega
theorem Inv.x6 (I:Inv X pins σ H s) (h:SqL X.K H a xs) (h':SqL X.K H a ys):xs=ys:=by
 obtain⟨its,r,⟨o,n,e,_,_,d⟩,_⟩:=I.list h
 obtain⟨its',r',⟨o',n',e',_,_,d'⟩,_⟩:=I.list h'
 rw[e] at e';cases e'
 rw[d] at d'
 injection d' with d1 _
 have:its=its':=by simpa using congrArg Array.toList d1
 subst this
 exact r.inj r'
end
abbrev Cx.iT (X:Cx) (E:Value→Shared→Prop):Cx:={ X with xe:=E }
abbrev Cx.nox (X:Cx):Cx:=X.iT fun _ _=>False
theorem Cx.Ok.iT {X:Cx} (ok:X.Ok) (E:Value→Shared→Prop):(X.iT E).Ok:=
 ⟨ok.mod,ok.kind,ok.glob,ok.blt,ok.above,ok.inj,ok.has,ok.cab,ok.hd,ok.frames,ok.stk,ok.exf,ok.bs,ok.bsz,ok.noex,ok.exfs,ok.iR,ok.frf,ok.tb⟩
theorem Cx.Ok.cx {X:Cx} {E:Value→Shared→Prop} (ok:(X.iT E).Ok):X.Ok:=
 ⟨ok.mod,ok.kind,ok.glob,ok.blt,ok.above,ok.inj,ok.has,ok.cab,ok.hd,ok.frames,ok.stk,ok.exf,ok.bs,ok.bsz,ok.noex,ok.exfs,ok.iR,ok.frf,ok.tb⟩
section
variable {X:Cx} {pins:List (Addr×Obj)} {σ:St} {H:Hp} {s:Shared} {E:Value→Shared→Prop}
theorem Inv.iT (I:Inv X pins σ H s) (E:Value→Shared→Prop):Inv (X.iT E) pins σ H s:=⟨I.ok.iT E,I.os,I.bare,I.base,I.loc,I.cell,I.free,I.freeC,I.pin,I.hok,I.len⟩
theorem Inv.cx (I:Inv (X.iT E) pins σ H s):Inv X pins σ H s:=⟨I.ok.cx,I.os,I.bare,I.base,I.loc,I.cell,I.free,I.freeC,I.pin,I.hok,I.len⟩
theorem SP.cx {D:Ends} {f:Flow} {s':Shared} (h:SP (X.iT E) pins D f s'):SP X pins D f s':=by
 cases f with
 | next=>obtain⟨σ',H',I,q⟩:=h;exact⟨σ',H',I.cx,q⟩
 | brk=>obtain⟨σ',H',I,q⟩:=h;exact⟨σ',H',I.cx,q⟩
 | cont=>obtain⟨σ',H',I,q⟩:=h;exact⟨σ',H',I.cx,q⟩
 | ret u=>obtain⟨v,σ',H',I,r,q⟩:=h;exact⟨v,σ',H',I.cx,r,q⟩
theorem PSs.nox {st:List Stmt} {t:TS} (h:PSs X.nox st t):PSs X st t:=fun pins s σ H D I hw=>
 wpAny_mono (h pins s σ H D (I.iT _) hw) (fun _ _ q=>q.cx) fun _ _ z=>False.elim z
end
section
variable {X:Cx} {st:Stmt} {rest:List Stmt} {t u:TS} {e:Expr} {te:TE} {pos:Pos}
def AY:TS:=fun D σ H=>D.nx σ H
def Cq (t u:TS):TS:=fun D σ H=>t { D with nx:=u D } σ H
theorem zP:PSs X [] AY:=fun _ _ σ H _ I h=>wpAny_execs_nil ⟨σ,H,I,h⟩
theorem i9 (h1:PS X st t) (h2:PSs X rest u):PSs X (st::rest) (Cq t u):=by
 intro pins s σ H D I h
 refine wpAny_execs_cons (thn (h1 pins s σ H { D with nx:=u D } I h) fun f s1 q=>?_)
 cases f with
 | next=>
  obtain⟨σ',H',I',q⟩:=q
  exact h2 pins s1 σ' H' D I' q
 | ret v=>exact q
 | brk=>exact q
 | cont=>exact q
theorem jC (h1:PS X st t):PSs X [st] t:=by
 intro pins s σ H D I h
 refine wpAny_execs_cons (thn (h1 pins s σ H D I h) fun f s1 q=>?_)
 cases f with
 | next=>exact wpAny_execs_nil q
 | ret v=>exact q
 | brk=>exact q
 | cont=>exact q
theorem Inv.quiet {pins:List (Addr×Obj)} {σ:St} {H:Hp} {s:Shared} (I:Inv X pins σ H s):interactive X.env=false:=by simp [interactive,I.ok.kind]
def wL (te:TE):TS:=fun D σ H=>te σ H fun _ H1=>D.nx σ H1
theorem jD (he:PE X e te) (hs:swapsWith e none pos.line X.env=pure false:=by rfl):PS X (.Expr e pos) (wL te):=by
 intro pins s σ H D I h
 exact wpAny_Expr_any (thn (he pins s σ H _ I h) fun v s1 ⟨x,H1,I1,r1,q1⟩=>⟨σ,H1,I1,q1⟩) I.quiet hs
def Eo (te:TE):TS:=fun D σ H=>te σ H D.rt
theorem CS (he:PE X e te):PS X (.Return (some e) pos) (Eo te):=by
 intro pins s σ H D I h
 exact wpAny_Return_some (thn (he pins s σ H _ I h) fun v s1 ⟨x,H1,I1,r1,q1⟩=>⟨x,σ,H1,I1,r1,q1⟩)
def Ct (c:TT) (t u:TS):TS:=fun D σ H=>c σ H fun b H1=>if b=true then t D σ H1 else u D σ H1
theorem A5 {c:Expr} {a b:List Stmt} {tc:TT} (hc:PT X c tc) (ha:PSs X a t) (hb:PSs X b u):PS X (.If c a b pos) (Ct tc t u):=by
 intro pins s σ H D I h
 refine wpAny_If (thn (hc pins s σ H _ I h) fun d s1 ⟨H1,I1,q1⟩=>?_)
 cases d with
 | true=>exact ha pins s1 σ H1 D I1 q1
 | false=>exact hb pins s1 σ H1 D I1 q1
def wK:TS:=fun _ _ _=>False
theorem xk:PS X st wK:=fun _ _ _ _ _ _ h=>h.elim
end
abbrev TG:=V→St→Hp→(St→Hp→Prop)→Prop
abbrev TGs:=List V→St→Hp→(St→Hp→Prop)→Prop
def PG (X:Cx) (target:Expr) (t:TG):Prop:=
 ∀ (pins:List (Addr×Obj)) (s:Shared) (σ:St) (H:Hp) (v:V) (u:Value) (Q:St→Hp→Prop),Inv X pins σ H s→RelV v u→t v σ H Q→
  wpAny (model X.prog X.w) X.A (assign target X.env u) (fun _ s'=>∃ σ' H',Inv X pins σ' H' s'∧Q σ' H') X.xe s
def PGs (X:Cx) (ts:List Expr) (t:TGs):Prop:=
 ∀ (pins:List (Addr×Obj)) (s:Shared) (σ:St) (H:Hp) (vs:List V) (us:List Value) (Q:St→Hp→Prop),Inv X pins σ H s→Vals vs us→t vs σ H Q→
  wpAny (model X.prog X.w) X.A (assignInOrder ((assignEach ts X.env).map (·.2)) us) (fun _ s'=>∃ σ' H',Inv X pins σ' H' s'∧Q σ' H') X.xe s
abbrev D8:=V→V→V→Hp→(Hp→Prop)→Prop
def Gs (X:Cx) (t:D8):Prop:=
 ∀ (pins:List (Addr×Obj)) (s:Shared) (σ:St) (H:Hp) (o i v:V) (ov iv u:Value) (Q:Hp→Prop),Inv X pins σ H s→RelV o ov→RelV i iv→RelV v u→t o i v H Q→
  wpAny (model X.prog X.w) X.A (setItem ov iv u) (fun _ s'=>∃ H',Inv X pins σ H' s'∧Q H') X.xe s
section
variable {X:Cx} {pos:Pos}
def lU (i:Nat):TG:=fun v σ H Q=>Q (σ.set i (some v)) H
theorem qg {i:Nat} {x:Str} (hN:X.N.Nodup) (hi:X.N[i]?=some x) (hx:Loc X.env.scope x) (hf:X.fn x=true∨X.env.scope.names.lookup x=some .local:=by first | exact .inl rfl | exact .inr rfl | assumption):PG X (.Name x pos) (lU i):=by
 intro pins s σ H v u Q I r h
 exact wpAny_assign_Name (mU I hN hi hx r (fun s' I'=>⟨_,H,I',h⟩) hf)
def Fy:TGs:=fun vs σ H Q=>vs=[]∧Q σ H
def BQ (t:TG) (u:TGs):TGs:=fun vs σ H Q=>∃ v r,vs=v::r∧t v σ H fun σ' H'=>u r σ' H' Q
theorem zY:PGs X [] Fy:=by
 intro pins s σ H vs us Q I r h
 obtain⟨e,h⟩:=h
 subst e
 cases r
 exact assignInOrder_nil ⟨σ,H,I,h⟩
theorem rE {e:Expr} {es:List Expr} {t:TG} {u:TGs} (h1:PG X e t) (h2:PGs X es u)
  (hs:(assignEach (e::es) X.env).map (·.2)=assign e X.env::(assignEach es X.env).map (·.2):=by rfl):PGs X (e::es) (BQ t u):=by
 intro pins s σ H vs us Q I r h
 obtain⟨v,vr,e1,h⟩:=h
 subst e1
 cases r with
 | cons r rr=>
  rw[hs]
  refine assignInOrder_cons (thn (h1 pins s σ H _ _ _ I r h) fun _ s1 ⟨σ1,H1,I1,q1⟩=>?_)
  exact h2 pins s1 σ1 H1 _ _ Q I1 rr q1
def Fx (K:PySem.W.Frag) (n:Nat) (t:TGs):TG:=fun v σ H Q=>∃ a xs,v=.ref a∧SqT K H a xs∧xs.length=n∧t xs σ H Q
theorem CV {es:List Expr} {k:Nat} {t:TGs} {n:Nat} (hc:X.calm=true) (h:PGs X es t)
  (hn:(assignEach es X.env).length=n:=by rfl) (hst:(assignEach es X.env).findIdx? (·.1)=none:=by rfl):PG X (.Tuple es k pos) (Fx X.K n t):=by
 intro pins s σ H v u Q I r hw
 obtain⟨a,xs,e1,hq,hl,hw⟩:=hw
 subst e1
 cases r
 obtain⟨its,rv,ht,hz⟩:=I.tuple hq
 refine assign_Tuple_tuple (I.ok.hd hc) ht (by simp [hn,← hl,rv.length]) hst fun h' hx=>?_
 have I1:Inv X pins σ H { s with heap:=h' }:=I.kept (t':=s.toks) fun b o e=>hx b o (Nat.ne_of_lt (Heap.lt_size e)) e
 exact h pins _ σ H xs _ Q I1 (by simpa using rv) hw
def Au (to ti:TE) (t:D8):TG:=fun v σ H Q=>to σ H fun o H1=>ti σ H1 fun i H2=>t o i v H2 fun H3=>Q σ H3
theorem CW {o i:Expr} {to ti:TE} {t:D8} (ho:PE X o to) (hi:PE X i ti) (hs:Gs X t)
  (ha:∀ v,assign (.Subscript o i pos) X.env v=(do
   let ov ← holding [v] (eval o X.env)
   let iv ← holding [v,ov] (eval i X.env)
   standAt pos
   holding [v,ov,iv] (setItem ov iv v)
   release [v,ov,iv] []):=by intro _;rfl):PG X (.Subscript o i pos) (Au to ti t):=by
 intro pins s σ H v u Q I r h
 rw[ha]
 refine wpAny_bind (wpAny_holding (thn (ho pins s σ H _ I h) fun ov s1 ⟨x,H1,I1,r1,q1⟩=>?_))
 refine wpAny_bind (wpAny_holding (thn (hi pins s1 σ H1 _ I1 q1) fun iv s2 ⟨y,H2,I2,r2,q2⟩=>?_))
 refine wpAny_bind (wpAny_standAt (wpAny_bind (wpAny_holding (thn (hs pins s2 σ H2 x y v ov iv u _ I2 r1 r2 r q2) fun _ s3 ⟨H3,I3,q3⟩=>?_))))
 exact wpAny_release ⟨σ,H3,I3,q3⟩
def pR (te:TE) (g:TG):TS:=fun D σ H=>te σ H fun x H1=>g x σ H1 D.nx
theorem CU {tg e:Expr} {te:TE} {g:TG} (he:PE X e te) (hg:PG X tg g) (hs:swapsWithSole [tg] e pos.line X.env=pure false:=by rfl) (hw:swappedStores [tg] e X.env=pure none:=by rfl)
  (h1:(assignEach [tg] X.env).map (·.2)=[assign tg X.env]:=by rfl):PS X (.Assign [tg] e pos) (pR te g):=by
 intro pins s σ H D I h
 refine wpAny_Assign_stores (thn (he pins s σ H _ I h) fun v s1 ⟨x,H1,I1,r1,q1⟩=>?_) hs hw
 rw[h1]
 exact thn (hg pins s1 σ H1 x v _ I1 r1 q1) fun _ s2 q=>q
theorem CQ {i:Nat} {x:Str} {e:Expr} {te:TE} {pos':Pos} (hN:X.N.Nodup) (hi:X.N[i]?=some x) (hx:Loc X.env.scope x) (he:PE X e te) (hs:swapsWith e (some (.Name x pos')) pos.line X.env=pure false:=by rfl) (hf:X.fn x=true∨X.env.scope.names.lookup x=some .local:=by first | exact .inl rfl | exact .inr rfl | assumption) :
  PS X (.Assign [.Name x pos'] e pos) (pR te (lU i)):=by
 intro pins s σ H D I h
 refine wpAny_Assign_Name (thn (he pins s σ H _ I h) fun v s1 ⟨y,H1,I1,r1,q1⟩=>?_) hs
 exact mU I1 hN hi hx r1 (fun s2 I2=>⟨_,H1,I2,q1⟩) hf
end
section
variable {X:Cx} {pos:Pos}
end
structure It where
 go:Nat→Hp→Prop
 yld:Nat→Hp→V→Hp→Prop
 stop:Nat→Hp→Prop
def e9 (X:Cx) (pins:List (Addr×Obj)) (H:Hp) (b:Addr):Prop:=
 H b=none∧b≠X.env.locals∧b∉X.fs∧(b∈X.ex∨X.s₀.heap.objs.size≤b)∧(∀ x c,X.env.cells.lookup x=some c→c≠b)∧∀ p∈X.pn++pins,p.1≠b
theorem Inv.rW {X:Cx} {pins:List (Addr×Obj)} {σ:St} {H H':Hp} {s:Shared} {b:Addr} (I:Inv X pins σ H s) (hb:s.heap.objs.size≤b) (hn:H' b=none):e9 X pins H' b:=by
 refine⟨hn,Nat.ne_of_gt (Nat.lt_of_lt_of_le I.lt hb),I.GH hb,.inr (Nat.le_trans I.sz hb),fun x c e z=>?_,fun p hp z=>?_⟩
 ·obtain⟨v,q⟩:=I.cell x c e
  exact absurd (Nat.lt_of_lt_of_le q.lt (by rw[z];exact hb)) (Nat.lt_irrefl _)
 ·exact absurd (Nat.lt_of_lt_of_le (Heap.lt_size (I.pin p hp).1) (by rw[z];exact hb)) (Nat.lt_irrefl _)
structure Turn (P:Program) (w:World) (K:PySem.W.Frag) (tg:Expr) (J:It) (fp:List Addr) (it:Addr) (tn:Nat→Heap→Prop):Prop where
 mem:it∈fp
 obj:∀ i h,tn i h→∀ b∈fp,∃ o,h.get? b=some o∧∀ v,o.data≠.cell v
 keep:∀ i h h',tn i h→(∀ b∈fp,∀ o,h.get? b=some o→h'.get? b=some o)→tn i h'
 item:∀ (X:Cx),X.prog=P→X.w=w→X.K=K→X.calm=true→∀ (i:Nat) (pins:List (Addr×Obj)) (s:Shared) (σ:St) (H:Hp) (E:Value→Shared→Prop),Inv X pins σ H s→(∀ b∈fp,e9 X pins H b)→tn i s.heap→J.go i H→
  wpAny (model P w) X.A (pyNext (.ref it)) (fun r s1=>∃ u,r=some u∧
   wpAny (model P w) X.A (letOwnedTupleGo tg (.ref it) u) (fun _ s2=>∃ x H',Inv X pins σ H' s2∧RelV x u∧J.yld i H x H'∧tn (i + 1) s2.heap∧∀ b∈fp,H' b=none) E s1) E s
 done:∀ (X:Cx),X.prog=P→X.w=w→X.K=K→X.calm=true→∀ (i:Nat) (pins:List (Addr×Obj)) (s:Shared) (σ:St) (H:Hp) (E:Value→Shared→Prop),Inv X pins σ H s→(∀ b∈fp,e9 X pins H b)→tn i s.heap→J.stop i H→
  wpAny (model P w) X.A (pyNext (.ref it)) (fun r s1=>r=none∧Inv X pins σ H s1) E s
 self:∀ (A:Around) (i:Nat) (s:Shared) (Q:Value→Shared→Prop) (E:Value→Shared→Prop),tn i s.heap→Q (.ref it) s→wpAny (model P w) A (pyIter (.ref it)) Q E s
abbrev TI:=St→Hp→(It→Hp→Prop)→Prop
def PIE (X:Cx) (pins:List (Addr×Obj)) (σ:St) (tg:Expr) (R:It→Hp→Prop) (itv:Value) (s2:Shared):Prop:=
 ∃ (it:Addr) (fp:List Addr) (tn:Nat→Heap→Prop) (J:It) (H':Hp),itv=.ref it∧Inv X pins σ H' s2∧Turn X.prog X.w X.K tg J fp it tn∧tn 0 s2.heap∧(∀ b∈fp,e9 X pins H' b)∧R J H'
def PI (X:Cx) (tg iter:Expr) (wi:TI):Prop:=
 ∀ (pins:List (Addr×Obj)) (s:Shared) (σ:St) (H:Hp) (R:It→Hp→Prop),Inv X pins σ H s→wi σ H R→
  wpAny (model X.prog X.w) X.A (eval iter X.env) (fun v s1=>wpAny (model X.prog X.w) X.A (pyIter v) (PIE X pins σ tg R) X.xe s1) X.xe s
theorem BP {M:Model} {A:Around} {E:Value→Shared→Prop} {s:Shared} {tg:Expr} {it:Addr} {u:Value} {o:Obj} {n:String} {vs:Array Value} {Q:Unit→Shared→Prop} (ho:s.heap.get? it=some o) (hc:o.cls=.type n) (hd:o.data=.fields vs)
  (hn:["enumerate","zip","dict_itemiterator","dict_reverseitemiterator","odict_iterator","itertools.zip_longest","itertools.pairwise"].contains n=false) (hQ:Q () s):wpAny M A (letOwnedTupleGo tg (.ref it) u) Q E s:=by
 unfold letOwnedTupleGo
 cases tg <;> first
  | exact wpAny_pure hQ
  | (cases u <;> first
    | exact wpAny_pure hQ
    | (refine wpAny_bind (wpAny_load ho ?_);rw[hc,hd];show wpAny M A (if (["enumerate","zip","dict_itemiterator","dict_reverseitemiterator","odict_iterator","itertools.zip_longest","itertools.pairwise"].contains n && vs[0]? == some (rawInt _))=true then _ else _) Q E s;rw[if_neg (by intro h;rw[hn,Bool.false_and] at h;cases h)];exact wpAny_pure hQ))
def Itl (K:PySem.W.Frag) (a:Addr):It:=
 ⟨fun i H=>∃ xs x,SqL K H a xs∧xs[i]?=some x,fun i H x H'=>H'=H∧∀ xs,SqL K H a xs→xs[i]?=some x,fun i H=>∃ xs,SqL K H a xs∧xs.length≤i⟩
def Itr (lo:Int) (n:Nat):It:=⟨fun i _=>i < n,fun i H x H'=>H'=H∧x=.int (lo + i),fun i _=>n≤i⟩
theorem vn {P:Program} {w:World} {K:PySem.W.Frag} {tg:Expr} (a it:Addr):Turn P w K tg (Itl K a) [it] it (fun i h=>h.IsListIter it a i) where
 mem:=by simp
 obj:=fun i h st b hb=>by
  have e:b=it:=by simpa using hb
  subst e
  obtain⟨o,e,c,d⟩:=st
  exact⟨o,e,fun v z=>by rw[d] at z;cases z⟩
 keep:=fun i h h' st k=>st.at fun o e=>k it (by simp) o e
 item:=by
  intro X hP hw hK hc i pins s σ H E I hf st hg
  subst hP hw hK
  obtain⟨xs,x,hq,hx⟩:=hg
  obtain⟨its,rv,p,hz⟩:=I.list hq
  obtain⟨u,hu,ru⟩:=rv.get hx
  obtain⟨f0,f1,f2,f3,f4,f5⟩:=hf it (by simp)
  refine wpAny_pyNext_list_item st p.isList (x:=u) (by simpa using hu) fun h' st' sb=>?_
  have I1:Inv X pins σ H { s with heap:=h' }:=I.turned (t':=s.toks) (fun b o hb e=>(sb.2 b hb).trans e) f0 f1 f3 f4 f5
  obtain⟨o,e,c,d⟩:=id st'
  exact⟨u,rfl,BP (s:={ s with heap:=h' }) e c d (by decide) ⟨x,H,I1,ru,⟨rfl,fun ys hy=>by rw[I.x6 hy hq];exact hx⟩,st',fun b hb=>(hf b hb).1⟩⟩
 done:=by
  intro X hP hw hK hc i pins s σ H E I hf st hg
  subst hP hw hK
  obtain⟨xs,hq,hx⟩:=hg
  obtain⟨its,rv,p,hz⟩:=I.list hq
  obtain⟨f0,f1,f2,f3,f4,f5⟩:=hf it (by simp)
  have hl:=rv.length
  exact wpAny_pyNext_list_end (I.ok.hd hc) st p.isList (by simp;omega) fun h' eb=>⟨rfl,I.turned (t':=s.toks) (fun b o hb e=>eb b o hb e) f0 f1 f3 f4 f5⟩
 self:=fun _ _ _ _ _ st h=>wpAny_pyIter_listiter st h
theorem sM {P:Program} {w:World} {K:PySem.W.Frag} {tg:Expr} (it:Addr) (lo:Int) (n:Nat):Turn P w K tg (Itr lo n) [it] it (fun i h=>IsRangeIter h it (lo + (i:Nat) * 1) ((n:Int) - (i:Nat)) 1) where
 mem:=by simp
 obj:=fun i h st b hb=>by
  have e:b=it:=by simpa using hb
  subst e
  exact⟨_,st,fun v z=>by
   have z':Data.fields _=Data.cell v:=z
   cases z'⟩
 keep:=fun i h h' st k=>k it (by simp) _ st
 item:=by
  intro X hP hw hK hc i pins s σ H E I hf st hg
  subst hP hw hK
  obtain⟨f0,f1,f2,f3,f4,f5⟩:=hf it (by simp)
  have W:=Walks.range (prog:=X.prog) (w:=X.w) (I.ok.hd hc) it lo 1 n
  refine W.item i s _ _ hg st fun v h' tk hv st' kk=>?_
  obtain⟨t,rfl⟩:=hv
  have I1:Inv X pins σ H { s with heap:=h',toks:=tk }:=I.turned (fun b o hb e=>kk b o (by simpa using hb) e) f0 f1 f3 f4 f5
  refine⟨_,rfl,BP (s:={ s with heap:=h',toks:=tk }) (n:="range_iterator") st' rfl rfl (by decide) ⟨.int (lo + i),H,I1,⟨t,?_⟩,⟨rfl,rfl⟩,st',fun b hb=>(hf b hb).1⟩⟩
  rw[Int.mul_one]
 done:=by
  intro X hP hw hK hc i pins s σ H E I hf st hg
  subst hP hw hK
  obtain⟨f0,f1,f2,f3,f4,f5⟩:=hf it (by simp)
  exact wpAny_pyNext_range_end (I.ok.hd hc) st (by have:n≤i:=hg;omega) fun h' eb=>⟨rfl,I.turned (t':=s.toks) (fun b o hb e=>eb b o hb e) f0 f1 f3 f4 f5⟩
 self:=fun _ _ _ _ _ st h=>wpAny_pyIter_rangeiter st h
end L2
namespace L2
open PySem PySem.Spec PyProof.Rows
section
variable {X:Cx} {tg:Expr}
def Bx (K:PySem.W.Frag) (tl:TE):TI:=fun σ H R=>tl σ H fun x H1=>∃ a,x=.ref a∧(∃ xs,SqL K H1 a xs)∧R (Itl K a) H1
theorem zW {l:Expr} {tl:TE} (hl:PE X l tl):PI X tg l (Bx X.K tl):=by
 intro pins s σ H R I h
 refine thn (hl pins s σ H _ I h) fun v s1 ⟨x,H1,I1,r1,q1⟩=>?_
 obtain⟨a,e,⟨xs,hq⟩,q⟩:=q1
 subst e
 cases r1
 obtain⟨its,rv,p,hz⟩:=I1.list hq
 refine wpAny_pyIter_list p.isList ?_
 refine⟨s1.heap.objs.size,[s1.heap.objs.size],_,_,H1,rfl,I1.kept (t':=s1.toks) fun b o e=>Heap.get?_push_of_some _ e,vn a _,⟨_,Heap.get?_push_size _ rfl,rfl,rfl⟩,fun b hb=>?_,q⟩
 have e:b=s1.heap.objs.size:=by simpa using hb
 subst e
 exact I1.rW (Nat.le_refl _) (I1.hok.fresh (Nat.le_refl _))
theorem xf {pins:List (Addr×Obj)} {σ:St} {H:Hp} {s:Shared} {R:It→Hp→Prop} {E:Value→Shared→Prop} {lo hi:Int} {t u v:Tok} {tk:Nat} (I:Inv X pins σ H s) (h1:-(2 ^ 62)≤lo) (h2:lo < 2 ^ 62) (h3:-(2 ^ 62)≤hi) (h4:hi < 2 ^ 62)
  (q:R (Itr lo (hi - lo).toNat) H):wpAny (model X.prog X.w) X.A (pyIter (.ref s.heap.objs.size)) (PIE X pins σ tg R) E { s with heap:=s.heap.push { cls:=.type "range",data:=.fields #[.int lo t,.int hi u,.int 1 v] },toks:=tk }:=by
 refine wpAny_pyIter_range (IsRange.new ..) (small_one h1 h2 h3 h4) ?_
 have I1:Inv X pins σ H { s with heap:=s.heap.push { cls:=.type "range",data:=.fields #[.int lo t,.int hi u,.int 1 v] },toks:=tk }:=I.kept fun b o e=>Heap.get?_push_of_some _ e
 refine⟨(s.heap.push { cls:=.type "range",data:=.fields #[.int lo t,.int hi u,.int 1 v] }).objs.size,[(s.heap.push { cls:=.type "range",data:=.fields #[.int lo t,.int hi u,.int 1 v] }).objs.size],_,_,H,rfl,
  I1.kept (t':=tk) fun b o e=>Heap.get?_push_of_some _ e,sM _ lo (hi - lo).toNat,?_,fun b hb=>?_,q⟩
 ·have e1:lo + ((0:Nat):Int) * 1=lo:=by simp
  have e2:(((hi - lo).toNat:Nat):Int) - ((0:Nat):Int)=Builtin.Range.rangeSize lo hi 1:=by rw[rangeSize_one];split <;> omega
  show IsRangeIter _ _ (lo + ((0:Nat):Int) * 1) ((((hi - lo).toNat:Nat):Int) - ((0:Nat):Int)) 1
  rw[e1,e2]
  exact Heap.get?_push_size _ rfl
 ·have e:b=(s.heap.push { cls:=.type "range",data:=.fields #[.int lo t,.int hi u,.int 1 v] }).objs.size:=by simpa using hb
  subst e
  exact I1.rW (Nat.le_refl _) (I1.hok.fresh (Nat.le_refl _))
def Bw (ta:TA):TI:=fun σ H R=>ta σ H fun vs H1=>∃ j:Int,vs=[.int j]∧-(2 ^ 62)≤j∧j < 2 ^ 62∧R (Itr 0 j.toNat) H1
theorem vF {a:Expr} {ta:TA} {p pos:Pos} (hg:Gl X "range") (hm:X.mg "range"=none) (ha:PA X [a] ta) (hs:starEach [a] X.env=[(false,eval a X.env)]:=by rfl):PI X tg (.Call (.Name "range" p) [a] [] pos) (Bw ta):=by
 intro pins s σ H R I h
 refine Call_ (kf I hg hm boot_range (PyProof.Rows.callWith_type1 (thn (ha pos pins s σ H _ I h) fun us s1 ⟨vs,H1,I1,r1,q1⟩=>?_) hs rfl))
 obtain⟨j,e,q1,q2,q⟩:=q1
 subst e
 cases r1 with
 | cons r rr=>
  cases rr
  obtain⟨t,rfl⟩:=r
  exact call_range_1 (xf I1 (by omega) (by omega) q1 q2 (by simpa using q))
def Er (wi:TI) (g:TG) (tb:TS):TS:=fun D σ H=>wi σ H fun J H1=>∃ W:Nat→Nat→St→Hp→Prop,(∃ m,W 0 m σ H1)∧∀ i m σ H,W i m σ H→
 (J.stop i H∧D.nx σ H)∨(J.go i H∧∃ N:St→Hp→Prop,(∀ σ' H',N σ' H'→∃ m',m' < m∧W (i + 1) m' σ' H')∧∀ x H',J.yld i H x H'→g x σ H' fun σ2 H2=>tb { D with nx:=N,ct:=N,bk:=D.nx } σ2 H2)
def m_ (fp:List Addr) (h:Heap):List (Addr×Obj):=fp.filterMap fun b=>(h.get? b).map fun o=>(b,o)
theorem dR {fp:List Addr} {h:Heap} {b:Addr} {o:Obj} (hb:b∈fp) (e:h.get? b=some o):(b,o)∈m_ fp h:=List.mem_filterMap.mpr ⟨b,hb,by rw[e];rfl⟩
theorem oU {fp:List Addr} {h:Heap} {p:Addr×Obj} (hp:p∈m_ fp h):p.1∈fp∧h.get? p.1=some p.2:=by
 obtain⟨b,hb,e⟩:=List.mem_filterMap.mp hp
 cases q:h.get? b with
 | none=>rw[q] at e;cases e
 | some o=>
  rw[q] at e
  have e':(b,o)=p:=Option.some.inj e
  subst e'
  exact⟨hb,q⟩
theorem Inv.pinned {pins:List (Addr×Obj)} {σ:St} {H:Hp} {s:Shared} {fp:List Addr} (I:Inv X pins σ H s) (hf:∀ b∈fp,e9 X pins H b) (ho:∀ b∈fp,∃ o,s.heap.get? b=some o∧∀ v,o.data≠.cell v):Inv X (pins++m_ fp s.heap) σ H s:=
 I.gp fun p hp=>(List.mem_append.mp hp).elim (fun z=>I.pin p (List.mem_append_right _ z)) fun z=>by
  obtain⟨hb,e⟩:=oU z
  obtain⟨f0,f1,f2,_⟩:=hf p.1 hb
  obtain⟨o,e',d⟩:=ho p.1 hb
  rw[e] at e';cases e'
  exact⟨e,f0,f1,f2,d⟩
theorem Inv.mQ {pins pl:List (Addr×Obj)} {σ:St} {H:Hp} {s:Shared} (I:Inv X (pins++pl) σ H s):Inv X pins σ H s:=I.gp fun p hp=>I.pin p (List.mem_append_right _ (List.mem_append_left _ hp))
theorem CT {iter:Expr} {body:List Stmt} {wi:TI} {g:TG} {tb:TS} {pos:Pos} (hp:PassesOwn (model X.prog X.w) X.A X.env X.xe) (hc:X.calm=true) (hi:PI X tg iter wi) (hg:PG X tg g) (hb:PSs X body tb)
  (hs:∀ x,foldedSetIterable iter X.env x=pure x:=by intro _;rfl):PS X (.For tg iter body [] pos) (Er wi g tb):=by
 intro pins s σ H D I h
 refine wpAny_For (thn (hi pins s σ H _ I h) fun v s1 h1=>thn h1 fun itv s2 h2=>?_) hs
 obtain⟨it,fp,tn,J,H2,e,I2,T,st2,f2,W,⟨m0,w0⟩,turn⟩:=h2
 subst e
 have stat:∀ {H':Hp},(∀ b∈fp,H' b=none)→∀ b∈fp,e9 X pins H' b:=fun hn b hb=>⟨hn b hb,(f2 b hb).2⟩
 refine codeAny_forLoop_any (fun n s'=>∃ i σ' H',Inv X pins σ' H' s'∧tn i s'.heap∧(∀ b∈fp,H' b=none)∧W i n σ' H') ?_ m0 ⟨0,σ,H2,I2,st2,fun b hb=>(f2 b hb).1,w0⟩
 rintro n s3 ⟨i,σ3,H3,I3,st3,fr3,w3⟩
 rcases turn i n σ3 H3 w3 with ⟨stop,qn⟩ | ⟨go,N,hN,step⟩
 ·refine wpAny_passesOwn hp (thn (T.done X rfl rfl rfl hc i pins s3 σ3 H3 X.xe I3 (stat fr3) st3 stop) fun r s4 ⟨hr,I4⟩=>?_)
  subst hr
  exact wpAny_execs_nil ⟨σ3,H3,I4,qn⟩
 ·refine wpAny_passesOwn hp (thn (T.item X rfl rfl rfl hc i pins s3 σ3 H3 X.xe I3 (stat fr3) st3 go) fun r s4 ⟨u,hr,h4⟩=>?_)
  subst hr
  refine wpAny_passesOwn hp (thn h4 fun _ s5 ⟨x,H5,I5,r5,y5,st5,fr5⟩=>?_)
  have I5':=I5.pinned (stat fr5) (T.obj _ _ st5)
  refine wpAny_passesOwn hp (thn (hg _ s5 σ3 H5 x u _ I5' r5 (step x H5 y5)) fun _ s6 ⟨σ6,H6,I6,q6⟩=>?_)
  refine wpAny_passesOwn hp (thn (hb _ s6 σ6 H6 _ I6 q6) fun f s7 q7=>?_)
  have again:∀ {σ7:St} {H7:Hp},Inv X (pins++m_ fp s5.heap) σ7 H7 s7→N σ7 H7→∃ m,m < n∧∃ i σ' H',Inv X pins σ' H' s7∧tn i s7.heap∧(∀ b∈fp,H' b=none)∧W i m σ' H':=fun {σ7 H7} I7 n7=>by
   obtain⟨m',hm,w7⟩:=hN σ7 H7 n7
   refine⟨m',hm,i + 1,σ7,H7,I7.mQ,T.keep _ _ _ st5 fun b hb o e=>(I7.pin (b,o) (List.mem_append_right _ (List.mem_append_right _ (dR hb e)))).1,fun b hb=>?_,w7⟩
   obtain⟨o,e,d⟩:=T.obj _ _ st5 b hb
   exact(I7.pin (b,o) (List.mem_append_right _ (List.mem_append_right _ (dR hb e)))).2.1
  cases f with
  | next=>obtain⟨σ7,H7,I7,n7⟩:=q7;exact again I7 n7
  | cont=>obtain⟨σ7,H7,I7,n7⟩:=q7;exact again I7 n7
  | brk=>obtain⟨σ7,H7,I7,q7⟩:=q7;exact⟨σ7,H7,I7.mQ,q7⟩
  | ret v=>obtain⟨x7,σ7,H7,I7,r7,q7⟩:=q7;exact⟨x7,σ7,H7,I7.mQ,r7,q7⟩
end
end L2
namespace L2
open PySem PySem.Spec PyProof.Rows
abbrev R2:=V→V→Hp→VK→Prop
def OpR (X:Cx) (f:Value→Value→Sem Value) (r:R2):Prop:=
 ∀ (pins:List (Addr×Obj)) (s:Shared) (σ:St) (H:Hp) (x y:V) (v u:Value) (Q:VK),Inv X pins σ H s→RelV x v→RelV y u→r x y H Q→
  wpAny (model X.prog X.w) X.A (f v u) (EP X pins σ Q) X.xe s
def UnR (X:Cx) (f:Value→Sem Value) (r:V→Hp→VK→Prop):Prop:=
 ∀ (pins:List (Addr×Obj)) (s:Shared) (σ:St) (H:Hp) (x:V) (v:Value) (Q:VK),Inv X pins σ H s→RelV x v→r x H Q→
  wpAny (model X.prog X.w) X.A (f v) (EP X pins σ Q) X.xe s
def dM (X:Cx) (f:Value) (r:List V→Hp→VK→Prop):Prop:=
 ∀ (pins:List (Addr×Obj)) (s:Shared) (σ:St) (H:Hp) (xs:List V) (us:List Value) (Q:VK),Inv X pins σ H s→Vals xs us→r xs H Q→
  wpAny (model X.prog X.w) X.A (call f us) (EP X pins σ Q) X.xe s
def tOp (r:R2) (ta tb:TE):TE:=fun σ H Q=>ta σ H fun x H1=>tb σ H1 fun y H2=>r x y H2 Q
def tUn (r:V→Hp→VK→Prop) (ta:TE):TE:=fun σ H Q=>ta σ H fun x H1=>r x H1 Q
def rI (C:Int→Int→Prop) (g:Int→Int→V):R2:=fun x y H Q=>∃ i j,x=.int i∧y=.int j∧C i j∧Q (g i j) H
def rI0 (g:Int→Int→V):R2:=fun x y H Q=>∃ i j,x=.int i∧y=.int j∧Q (g i j) H
def rU (g:Int→V):V→Hp→VK→Prop:=fun x H Q=>∃ i,x=.int i∧Q (g i) H
section
variable {X:Cx} {a b c:Expr} {ta tb tc:TE} {pos:Pos}
theorem FT (ha:PE X a ta) (hb:PE X b tb) {pins:List (Addr×Obj)} {s:Shared} {σ:St} {H:Hp} {R:V→V→Hp→Prop} (I:Inv X pins σ H s)
  (h:ta σ H fun x H1=>tb σ H1 fun y H2=>R x y H2) {Q:Value→Shared→Prop} {f:Value→Value→Sem Value}
  (hf:∀ v u s2 x y H2,Inv X pins σ H2 s2→RelV x v→RelV y u→R x y H2→wpAny (model X.prog X.w) X.A (f v u) Q X.xe s2) :
  wpAny (model X.prog X.w) X.A (eval a X.env) (fun v s₁=>wpAny (model X.prog X.w) X.A (eval b X.env) (fun u s₂=>wpAny (model X.prog X.w) X.A (f v u) Q X.xe s₂) X.xe s₁) X.xe s:=by
 refine thn (ha pins s σ H _ I h) fun v s1 ⟨x,H1,I1,r1,q1⟩=>?_
 refine thn (hb pins s1 σ H1 _ I1 q1) fun u s2 ⟨y,H2,I2,r2,q2⟩=>?_
 exact hf v u s2 x y H2 I2 r1 r2 q2
theorem jR {op:Operator} {r:R2} (ho:OpR X (binaryOp op) r) (ha:PE X a ta) (hb:PE X b tb):PE X (.BinOp a op b pos) (tOp r ta tb):=by
 intro pins s σ H Q I h
 exact wpAny_BinOp (FT ha hb I h fun v u s2 x y H2 I2 rx ry q=>ho pins s2 σ H2 x y v u Q I2 rx ry q)
theorem ER {op:UnaryOp} {r:V→Hp→VK→Prop} (ho:UnR X (unaryOp op) r) (ha:PE X a ta):PE X (.UnaryOp op a pos) (tUn r ta):=by
 intro pins s σ H Q I h
 exact UnaryOp_ (thn (ha pins s σ H _ I h) fun v s1 ⟨x,H1,I1,r1,q1⟩=>ho pins s1 σ H1 x v Q I1 r1 q1)
theorem opI {f:Value→Value→Sem Value} {C:Int→Int→Prop} {g:Int→Int→Int}
  (rule:∀ (i j:Int) (t u:Tok) (s:Shared) (Q:Value→Shared→Prop) (E:Value→Shared→Prop),C i j→Q (.int (g i j) s.toks) { s with toks:=s.toks + 1 }→wpAny (model X.prog X.w) X.A (f (.int i t) (.int j u)) Q E s) :
  OpR X f (rI C fun i j=>.int (g i j)):=by
 intro pins s σ H x y v u Q I rx ry h
 obtain⟨i,j,rfl,rfl,hc,q⟩:=h
 obtain⟨t,rfl⟩:=rx
 obtain⟨t',rfl⟩:=ry
 exact rule i j t t' s _ _ hc ⟨.int (g i j),H,I.tok _,⟨_,rfl⟩,q⟩
theorem mv {f:Value→Value→Sem Value} {g:Int→Int→Int}
  (rule:∀ (i j:Int) (t u:Tok) (s:Shared) (Q:Value→Shared→Prop) (E:Value→Shared→Prop),Q (.int (g i j) s.toks) { s with toks:=s.toks + 1 }→wpAny (model X.prog X.w) X.A (f (.int i t) (.int j u)) Q E s) :
  OpR X f (rI0 fun i j=>.int (g i j)):=by
 intro pins s σ H x y v u Q I rx ry h
 obtain⟨i,j,rfl,rfl,q⟩:=h
 obtain⟨t,rfl⟩:=rx
 obtain⟨t',rfl⟩:=ry
 exact rule i j t t' s _ _ ⟨.int (g i j),H,I.tok _,⟨_,rfl⟩,q⟩
theorem Ae {f:Value→Value→Sem Value} {g:Int→Int→Bool}
  (rule:∀ (i j:Int) (t u:Tok) (s:Shared) (Q:Value→Shared→Prop) (E:Value→Shared→Prop),Q (.bool (g i j)) s→wpAny (model X.prog X.w) X.A (f (.int i t) (.int j u)) Q E s) :
  OpR X f (rI0 fun i j=>.bl (g i j)):=by
 intro pins s σ H x y v u Q I rx ry h
 obtain⟨i,j,rfl,rfl,q⟩:=h
 obtain⟨t,rfl⟩:=rx
 obtain⟨t',rfl⟩:=ry
 exact rule i j t t' s _ _ ⟨.bl (g i j),H,I,rfl,q⟩
def mE (i j:Int):Prop:=0 < j∧j < 1073741824
def wk (i j:Int):Prop:=0≤j∧j≤1000000∧i.natAbs < 2 ^ 64
def sF (i j:Int):Prop:=(-(2 ^ 64) < i∧i < 2 ^ 64)∨(-(2 ^ 64) < j∧j < 2 ^ 64)
theorem sF.ok {i j:Int} (h:sF i j):IntMulOk i j:=by
 rcases h with ⟨h1,h2⟩ | ⟨h1,h2⟩
 ·exact .of_left (intBits_le_64 h1 h2)
 ·exact .of_right (intBits_le_64 h1 h2)
theorem sJ (k:Nat):(0:Int)≤2 ^ k:=by
 rw[two_pow_cast]
 exact Int.natCast_nonneg _
theorem Dt:OpR X (binaryOp .Add) (rI0 fun i j=>.int (i + j)):=mv fun _ _ _ _ _ _ _ q=>add_int q
theorem Df:OpR X (binaryOp .Sub) (rI0 fun i j=>.int (i - j)):=mv fun _ _ _ _ _ _ _ q=>sub_int q
theorem Dl:OpR X (binaryOp .Mult) (rI sF fun i j=>.int (i * j)):=opI fun _ _ _ _ _ _ _ hc q=>mul_int q hc.ok
theorem Ab:OpR X (binaryOp .FloorDiv) (rI mE fun i j=>.int (i / j)):=opI fun i j _ _ _ _ _ hc q=>by
 have h1:(0:Int) < j:=hc.1
 have h2:j < 1073741824:=hc.2
 exact floordiv_int (by omega) (by rw[Int.fdiv_eq_ediv_of_nonneg i (by omega)];exact q) (.inl (PyProof.noPylong_small (by omega)))
theorem Dm:OpR X (binaryOp .Mod) (rI (fun _ j=>0 < j) fun i j=>.int (i % j)):=opI fun i j _ _ _ _ _ hc q=>by
 have h1:(0:Int) < j:=hc
 exact mod_int' (by omega) (by rw[Int.fmod_eq_emod_of_nonneg i (by omega)];exact q)
theorem Di:OpR X (binaryOp .Pow) (rI wk fun i j=>.int (i ^ j.toNat)):=opI fun _ _ _ _ _ _ _ hc q=>pow_int_small hc.1 hc.2.1 hc.2.2 q
theorem Dh:OpR X (binaryOp .LShift) (rI wk fun i j=>.int (i * 2 ^ j.toNat)):=opI fun _ _ _ _ _ _ _ hc q=>lshift_int_small hc.1 hc.2.1 hc.2.2 q
theorem Dg:OpR X (binaryOp .RShift) (rI (fun _ j=>0≤j) fun i j=>.int (i / 2 ^ j.toNat)):=opI fun i j _ _ _ _ _ hc q=>
 rshift_int hc (by rw[Int.fdiv_eq_ediv_of_nonneg i (sJ _)];exact q)
theorem Ds:OpR X (binaryOp .BitAnd) (rI0 fun i j=>.int (Builtin.bitAnd i j)):=mv fun _ _ _ _ _ _ _ q=>and_int q
theorem E2:OpR X (binaryOp .BitOr) (rI0 fun i j=>.int (Builtin.bitOr i j)):=mv fun _ _ _ _ _ _ _ q=>or_int q
theorem unI {f:Value→Sem Value} {g:Int→Int}
  (rule:∀ (i:Int) (t:Tok) (s:Shared) (Q:Value→Shared→Prop) (E:Value→Shared→Prop),Q (.int (g i) s.toks) { s with toks:=s.toks + 1 }→wpAny (model X.prog X.w) X.A (f (.int i t)) Q E s) :
  UnR X f (rU fun i=>.int (g i)):=by
 intro pins s σ H x v Q I rx h
 obtain⟨i,rfl,q⟩:=h
 obtain⟨t,rfl⟩:=rx
 exact rule i t s _ _ ⟨.int (g i),H,I.tok _,⟨_,rfl⟩,q⟩
theorem Ci:UnR X (unaryOp .USub) (rU fun i=>.int (-i)):=unI fun _ _ _ _ _ q=>neg_int q
end
section
variable {X:Cx} {a b c:Expr} {ta tb tc:TE} {pos:Pos}
theorem nL {pins:List (Addr×Obj)} {σ:St} {H:Hp} {s:Shared} {Q:VK} {k k':Bool} (I:Inv X pins σ H s) (q:Q (.bl k) H) (e:k=k'):EP X pins σ Q (.bool k') s:=by
 subst e
 exact⟨.bl k,H,I,rfl,q⟩
theorem E4:OpR X (compareOp .Lt) (rI0 fun i j=>.bl (decide (i < j))):=Ae fun _ _ _ _ _ _ _ q=>lt_int q
theorem E5:OpR X (compareOp .LtE) (rI0 fun i j=>.bl (decide (i≤j))):=Ae fun _ _ _ _ _ _ _ q=>le_int q
theorem E6:OpR X (compareOp .Gt) (rI0 fun i j=>.bl (decide (j < i))):=Ae fun _ _ _ _ _ _ _ q=>gt_int q
theorem E7:OpR X (compareOp .GtE) (rI0 fun i j=>.bl (decide (j≤i))):=Ae fun _ _ _ _ _ _ _ q=>ge_int q
theorem Dn:OpR X (compareOp .Is) (fun x y H Q=>y=.non∧Q (.bl (decide (x=.non))) H):=by
 intro pins s σ H x y v u Q I rx ry h
 obtain⟨rfl,q⟩:=h
 cases ry
 refine is_none_gen (nL I q ?_)
 cases x <;> first
  | (cases rx;rfl)
  | (obtain⟨t,rfl⟩:=rx;rfl)
theorem OpR.or {f:Value→Value→Sem Value} {r r':R2} (h:OpR X f r) (h':OpR X f r'):OpR X f (fun x y H Q=>r x y H Q∨r' x y H Q):=by
 intro pins s σ H x y v u Q I rx ry q
 rcases q with q | q
 ·exact h pins s σ H x y v u Q I rx ry q
 ·exact h' pins s σ H x y v u Q I rx ry q
theorem bV (b:Expr) {op:CmpOp} (h:op≠.In:=by decide) (h2:op≠.NotIn:=by decide):behindInMarks op b=false:=by
 have e1:(op == CmpOp.In)=false:=by cases op <;> first | rfl | exact absurd rfl h
 have e2:(op == CmpOp.NotIn)=false:=by cases op <;> first | rfl | exact absurd rfl h2
 cases b <;> simp [behindInMarks,e1,e2]
def t9 (t:TE):TT:=fun σ H Q=>t σ H fun x H'=>∃ k,x=.bl k∧Q k H'
theorem zO {op:CmpOp} {r:R2} (ho:OpR X (compareOp op) r) (ha:PE X a ta) (hb:PE X b tb) (hm:behindInMarks op b=false):PT X (.Compare a [op] [b] pos) (t9 (tOp r ta tb)):=by
 intro pins s σ H Q I h
 refine wpAny_isTrue_Compare1 (thn (ha pins s σ H _ I h) fun v s1 ⟨x,H1,I1,r1,q1⟩=>thn (hb pins s1 σ H1 _ I1 q1) fun u s2 ⟨y,H2,I2,r2,q2⟩=>
  thn (ho pins s2 σ H2 x y v u _ I2 r1 r2 q2) fun c s3 ⟨z,H3,I3,r3,k,e,q3⟩=>?_) hm
 subst e
 cases r3
 exact wpAny_truthy_bool ⟨H3,I3,q3⟩
def mT (r r':R2) (ta tb tc:TE):TE:=fun σ H Q=>ta σ H fun x H1=>tb σ H1 fun y H2=>r x y H2 fun z H3=>∃ k,z=.bl k∧
 (if k=true then tc σ H3 fun w' H4=>r' y w' H4 Q else Q (.bl false) H3)
theorem xx {op op':CmpOp} {r r':R2} (ho:OpR X (compareOp op) r) (ho':OpR X (compareOp op') r') (ha:PE X a ta) (hb:PE X b tb) (hc:PE X c tc)
  (hm:lastMarks [op,op'] [b,c]=false:=by with_unfolding_all rfl):PE X (.Compare a [op,op'] [b,c] pos) (mT r r' ta tb tc):=by
 intro pins s σ H Q I h
 refine Compare_chain (thn (ha pins s σ H _ I h) fun v s1 ⟨x,H1,I1,r1,q1⟩=>chain_link (thn (hb pins s1 σ H1 _ I1 q1) fun u s2 ⟨y,H2,I2,r2,q2⟩=>
  thn (ho pins s2 σ H2 x y v u _ I2 r1 r2 q2) fun d s3 ⟨z,H3,I3,r3,k,e,q3⟩=>?_)) hm
 subst e
 cases r3
 refine wpAny_truthy_bool ?_
 cases k with
 | false=>exact ite_ff ⟨.bl false,H3,I3,rfl,q3⟩
 | true=>exact ite_tt (chain_last (thn (hc pins s3 σ H3 _ I3 q3) fun w' s4 ⟨z',H4,I4,r4,q4⟩=>ho' pins s4 σ H4 y z' u w' Q I4 r2 r4 q4))
theorem xi {op op':CmpOp} {r r':R2} (ho:OpR X (compareOp op) r) (ho':OpR X (compareOp op') r') (ha:PE X a ta) (hb:PE X b tb) (hc:PE X c tc)
  (hm:lastMarks [op,op'] [b,c]=false:=by with_unfolding_all rfl):PT X (.Compare a [op,op'] [b,c] pos) (t9 (mT r r' ta tb tc)):=by
 intro pins s σ H Q I h
 refine isTrue_chain (thn (ha pins s σ H _ I h) fun v s1 ⟨x,H1,I1,r1,q1⟩=>test_link (thn (hb pins s1 σ H1 _ I1 q1) fun u s2 ⟨y,H2,I2,r2,q2⟩=>
  thn (ho pins s2 σ H2 x y v u _ I2 r1 r2 q2) fun d s3 ⟨z,H3,I3,r3,k,e,q3⟩=>?_)) hm
 subst e
 cases r3
 refine wpAny_truthy_bool ?_
 cases k with
 | false=>
  obtain⟨k',e',q'⟩:=q3
  cases e'
  exact ite_ff ⟨H3,I3,q'⟩
 | true=>
  refine ite_tt (test_last (thn (hc pins s3 σ H3 _ I3 q3) fun w' s4 ⟨z',H4,I4,r4,q4⟩=>thn (ho' pins s4 σ H4 y z' u w' _ I4 r2 r4 q4) fun d' s5 ⟨z2,H5,I5,r5,k2,e2,q5⟩=>?_))
  subst e2
  cases r5
  exact wpAny_truthy_bool ⟨H5,I5,q5⟩
theorem lK:(sizeLine:Nat) < 2 ^ 63:=by rw[sizeLine_eq];decide
theorem s8:OpR X (binaryOp .Add) (fun x y H Q=>∃ i j,x=.str i∧y=.str j∧i.length + j.length≤sizeLine∧Q (.str (i++j)) H):=by
 intro pins s σ H x y v u Q I rx ry h
 obtain⟨i,j,rfl,rfl,hz,q⟩:=h
 obtain⟨t,rfl⟩:=rx
 obtain⟨t',rfl⟩:=ry
 exact add_str (fun t' tk=>⟨.str (i++j),H,I.tok _,⟨_,rfl⟩,q⟩) hz
theorem vals1 {x:V} {us:List Value} (r:Vals [x] us):∃ u,us=[u]∧RelV x u:=by
 cases r with
 | cons r1 r2=>cases r2;exact⟨_,rfl,r1⟩
theorem vals2 {x y:V} {us:List Value} (r:Vals [x,y] us):∃ u w',us=[u,w']∧RelV x u∧RelV y w':=by
 cases r with
 | cons r1 r2=>
  cases r2 with
  | cons r3 r4=>cases r4;exact⟨_,_,rfl,r1,r3⟩
theorem we (hc:X.calm=true):dM X (.builtin "max") (fun xs H Q=>∃ i j,xs=[.int i,.int j]∧Q (.int (if j > i then j else i)) H):=by
 intro pins s σ H xs us Q I r h
 obtain⟨i,j,rfl,q⟩:=h
 obtain⟨u,w',rfl,⟨t,rfl⟩,⟨t',rfl⟩⟩:=vals2 r
 refine max_two_ints (I.ok.hd hc) fun h' tk k=>⟨_,H,I.kept k,?_,q⟩
 by_cases hj:j > i
 ·rw[if_pos hj,if_pos hj];exact⟨_,rfl⟩
 ·rw[if_neg hj,if_neg hj];exact⟨_,rfl⟩
theorem wc (hc:X.calm=true):dM X (.builtin "min") (fun xs H Q=>∃ i j,xs=[.int i,.int j]∧Q (.int (if j < i then j else i)) H):=by
 intro pins s σ H xs us Q I r h
 obtain⟨i,j,rfl,q⟩:=h
 obtain⟨u,w',rfl,⟨t,rfl⟩,⟨t',rfl⟩⟩:=vals2 r
 refine min_two_ints (I.ok.hd hc) fun h' tk k=>⟨_,H,I.kept k,?_,q⟩
 by_cases hj:j < i
 ·rw[if_pos hj,if_pos hj];exact⟨_,rfl⟩
 ·rw[if_neg hj,if_neg hj];exact⟨_,rfl⟩
end
end L2
namespace L2
open PySem PySem.Spec PyProof.Rows
structure AL (h:Heap) (x dx C:Addr) (mA:Str→Option Value):Prop where
 obj:h.get? x=some (PySem.W.instObj C dx)
 ns:h.Ns1 dx mA
 ne:dx≠x
theorem jI {h:Heap} {dx:Addr} {mA:Str→Option Value} (n:h.Ns1 dx mA):∃ od,h.get? dx=some od∧∀ name,PySem.W.lookIn name od=some (mA name):=by
 obtain⟨o,es,ep,ho,hd,hk,_,hm⟩:=n
 refine⟨o,ho,fun name=>?_⟩
 have e:=hm name
 unfold nsFind findBy at e
 rw[← Array.find?_toList] at e
 unfold PySem.W.lookIn
 rw[hd]
 dsimp only
 split
 ·rename_i y q
  rw[q] at e
  exact congrArg some e
 ·rename_i q
  rw[q] at e
  have a:es.toList.any (·.refKey)=false:=by
   rw[List.any_eq_false]
   intro y hy
   obtain⟨z,t,hkey⟩:=hk y (Array.mem_toList_iff.mp hy)
   simp [DictEntry.refKey,hkey]
  have a':¬ es.toList.any (·.refKey)=true:=by rw[a];exact Bool.false_ne_true
  rw[if_neg a']
  exact congrArg some e
theorem AL.look {h:Heap} {x dx C:Addr} {mA:Str→Option Value} (I:AL h x dx C mA):∃ od,PySem.W.InstAt h x (PySem.W.instObj C dx) C (some od)∧∀ name,PySem.W.lookIn name od=some (mA name):=
 let ⟨od,ho,hl⟩:=jI I.ns
 ⟨od,⟨I.obj,rfl,rfl,ho⟩,hl⟩
section
variable {prog:Program} {w:World} {A:Around} {E:Value→Shared→Prop} {s:Shared} {K:PySem.W.Frag} {x dx C f:Addr} {mA:Str→Option Value} {name:Str} {v:Value}
theorem yt {pl:Sem Bool} {Q:Value×List Value→Shared→Prop} (X:K.In s.heap) (I:AL s.heap x dx C mA) (hg:PySem.W.plainGet K C name=true)
  (hf:PySem.W.findIn K (.ref C) name=some (some (.ref f))) (ht:PySem.W.isFn K (.ref f)=true) (hv:mA name=none) (h:Q (.ref f,[.ref x]) s) :
  wpAny (model prog w) A (getMethod (.ref x) name pl) Q E s:=by
 obtain⟨od,J,hl⟩:=I.look
 exact PySem.W.method_fn X J (PySem.W.plainGet_of hg).1 (PySem.W.plainGet_of hg).2 hf (beq_iff_eq.mp ht) (by show (PySem.W.lookIn name od).map (·.isSome)=some false;rw[hl,hv];rfl) h
theorem vP {R:Result→Shared→Prop} (X:K.In s.heap) (hm:PySem.W.makesIn K C=true)
  (hi:PySem.W.findIn K (.ref C) "__init__"=some (some (.builtin "object.__init__")))
  (hb:∀ self,PySem.W.Looks (model prog w) s.heap (bindSpecial (.builtin "object.__init__") self) (.builtin "object.__init__",[self]))
  (h:codeAny (model prog w) (A.under (.builtin "type.__call__" ⟨[.ref C],[]⟩)) (.call (.builtin "object.__init__") ⟨[.ref (s.heap.objs.size + 1)],[]⟩) (PySem.W.InitBack (s.heap.objs.size + 1) R)
   { s with heap:=(s.heap.push PySem.W.emptyDict).push (PySem.W.instObj C s.heap.objs.size) }) :
  codeAny (model prog w) A (.call (.ref C) ⟨[],[]⟩) R s:=by
 obtain⟨hh,g,d,t,os⟩:=s
 exact PySem.W.make_core (PySem.W.makes_of X hm) (PySem.W.looks_findIn X hi) hb (.inr ⟨rfl,rfl⟩) h
end
def mq (f:Str) (v:V):List (Str×V)→List (Str×V)
 | []=>[(f,v)]
 | (g,x)::r=>if g=f then (g,v)::r else (g,x)::mq f v r
theorem lT (f g:Str) (v:V):∀ fs:List (Str×V),(mq f v fs).lookup g=if g=f then some v else fs.lookup g
 | []=>by
  show List.lookup g [(f,v)]=_
  by_cases h:g=f
  ·have hb:(g == f)=true:=beq_iff_eq.mpr h
   simp only[List.lookup,hb,if_pos h]
  ·have hb:(g == f)=false:=beq_eq_false_iff_ne.mpr h
   simp only[List.lookup,hb,if_neg h]
 | (k,x)::r=>by
  have ih:=lT f g v r
  rw[show mq f v ((k,x)::r)=(if k=f then (k,v)::r else (k,x)::mq f v r) from rfl]
  by_cases hk:k=f
  ·rw[if_pos hk]
   by_cases h:g=k
   ·have hb:(g == k)=true:=beq_iff_eq.mpr h
    simp only[List.lookup,hb,if_pos (h.trans hk)]
   ·have hb:(g == k)=false:=beq_eq_false_iff_ne.mpr h
    simp only[List.lookup,hb,if_neg (fun e:g=f=>h (e.trans hk.symm))]
  ·rw[if_neg hk]
   by_cases h:g=k
   ·have hb:(g == k)=true:=beq_iff_eq.mpr h
    simp only[List.lookup,hb,if_neg (fun e:g=f=>hk (h.symm.trans e))]
   ·have hb:(g == k)=false:=beq_eq_false_iff_ne.mpr h
    simp only[List.lookup,hb]
    exact ih
theorem lL (f:Str) (v:V):∀ fs:List (Str×V),f∈(mq f v fs).map (·.1)∧∀ g,g∈fs.map (·.1)→g∈(mq f v fs).map (·.1)
 | []=>⟨by simp [mq],fun g h=>by simp at h⟩
 | (k,x)::r=>by
  obtain⟨i1,i2⟩:=lL f v r
  rw[show mq f v ((k,x)::r)=(if k=f then (k,v)::r else (k,x)::mq f v r) from rfl]
  by_cases hk:k=f
  ·rw[if_pos hk]
   subst hk
   exact⟨by simp,fun g h=>by simpa using h⟩
  ·rw[if_neg hk]
   refine⟨?_,fun g h=>?_⟩
   ·rw[List.map_cons]
    exact List.mem_cons_of_mem _ i1
   ·rw[List.map_cons] at h ⊢
    rcases List.mem_cons.mp h with e | e
    ·exact List.mem_cons.mpr (.inl e)
    ·exact List.mem_cons_of_mem _ (i2 g e)
theorem k9.some_of {v:V} {o:Option Value} (r:k9 (some v) o):∃ u,o=some u∧RelV v u:=by
 cases o with
 | none=>exact(show False from r).elim
 | some u=>exact⟨u,rfl,r⟩
theorem k9.none_of {o:Option Value} (r:k9 none o):o=none:=by
 cases o with
 | none=>rfl
 | some u=>exact(show False from r).elim
theorem vZ {v:V} {u:Value} (r:RelV v u):PySem.W.handedIn u=true:=by
 cases v with
 | non=>cases (show u=Value.none from r);rfl
 | bl b=>cases (show u=Value.bool b from r);rfl
 | int i=>obtain⟨t,e⟩:=(show ∃ t,u=Value.int i t from r);cases e;rfl
 | str x=>obtain⟨t,e⟩:=(show ∃ t,u=Value.str x t from r);cases e;rfl
 | byt b=>obtain⟨t,e⟩:=(show ∃ t,u=Value.bytes b t from r);cases e;rfl
 | flt b=>obtain⟨t,e⟩:=(show ∃ t,u=Value.float b t from r);cases e;rfl
 | ref a=>cases (show u=Value.ref a from r);rfl
 | ty n=>cases (show u=Value.type n from r);rfl
section
variable {P:Program} {w:World} {H H':Hp} {h h':Heap} {a C dx:Addr} {fs fs':List (Str×V)}
theorem qx (hok:HOk P w H h) (e:H a=some (.ins C dx fs)):∃ mA,AL h a dx C mA∧(∀ f,k9 (fs.lookup f) (mA f))∧PySem.Within mA (fs.map (·.1))∧fs.length≤1000∧H dx=some (.own a):=by
 obtain⟨d,z,ne,ob,mA,n,r,q⟩:=(show bX P w H h a (.ins C dx fs) from hok a _ e)
 exact⟨mA,⟨ob,n,ne⟩,r,q,z,d⟩
end
structure Cls (K:PySem.W.Frag) (C:Addr):Prop where
 pg:PySem.W.plainGet K C Str.empty=true
 hd:PySem.W.hasDictIn K C=true
 po:PySem.W.plainOver K C=true
 sa:PySem.W.findIn K (.ref C) "__setattr__"=some (some (.builtin "object.__setattr__"))
theorem Cls.get {K:PySem.W.Frag} {C:Addr} (c:Cls K C) (f:Str):PySem.W.plainGet K C f=true:=c.pg
def iz (K:PySem.W.Frag) (C:Addr) (f:Str):Prop:=PySem.W.findIn K (.ref C) f=some none
structure Meth (K:PySem.W.Frag) (C:Addr) (m:Str) (f:Addr):Prop where
 at_:PySem.W.findIn K (.ref C) m=some (some (.ref f))
 fn:PySem.W.isFn K (.ref f)=true
 kp:PySem.W.keepIn K (.ref f)=true
section
variable {X:Cx} {pins:List (Addr×Obj)} {σ:St} {H:Hp} {s:Shared} {a C dx:Addr} {fs:List (Str×V)} {f:Str} {v:V} {A:Around} {E:Value→Shared→Prop}
theorem kj {m:Str} {g:Addr} {pl:Sem Bool} {Q:Value×List Value→Shared→Prop} (I:Inv X pins σ H s) (e:H a=some (.ins C dx fs)) (c:Cls X.K C) (k:Meth X.K C m g) (l:fs.lookup m=none)
  (h:Q (.ref g,[.ref a]) s):wpAny (model X.prog X.w) A (getMethod (.ref a) m pl) Q E s:=by
 obtain⟨mA,O,r,_,_,_⟩:=qx I.hok e
 have hn:mA m=none:=k9.none_of (by rw[← l];exact r m)
 exact yt I.kIn O (c.get m) k.at_ k.fn hn h
theorem Inv.made (I:Inv X pins σ H s):Inv X pins σ (upd (upd H s.heap.objs.size (.own (s.heap.objs.size + 1))) (s.heap.objs.size + 1) (.ins C s.heap.objs.size []))
  { s with heap:=(s.heap.push PySem.W.emptyDict).push (PySem.W.instObj C s.heap.objs.size) }:=by
 have e1:(s.heap.push PySem.W.emptyDict).get? s.heap.objs.size=some PySem.W.emptyDict:=Heap.get?_push_size s.heap rfl
 have e2:((s.heap.push PySem.W.emptyDict).push (PySem.W.instObj C s.heap.objs.size)).get? (s.heap.objs.size + 1)=some (PySem.W.instObj C s.heap.objs.size):=by
  have:=Heap.get?_push_size (s.heap.push PySem.W.emptyDict) (o:=PySem.W.instObj C s.heap.objs.size) rfl
  rwa [Heap.size_push] at this
 have e3:(s.heap.push PySem.W.emptyDict).Ns s.heap.objs.size (fun _=>none):=⟨PySem.W.emptyDict,#[],_,e1,rfl,(fun e he=>absurd he (by simp)),fun _=>rfl⟩
 have I1:=I.laid (a:=s.heap.objs.size) (o:=.own (s.heap.objs.size + 1)) (h':=s.heap.push PySem.W.emptyDict) (t':=s.toks) (fun b u q=>Heap.get?_push_of_some _ q) (Nat.le_refl _) ⟨_,e1⟩
 refine I1.laid (a:=s.heap.objs.size + 1) (o:=.ins C s.heap.objs.size []) (t':=s.toks) (fun b u q=>Heap.get?_push_of_some _ q) (Nat.le_of_eq (Heap.size_push _ _)) ?_
 have ne:s.heap.objs.size≠s.heap.objs.size + 1:=Nat.ne_of_lt (Nat.lt_succ_self _)
 refine⟨by rw[ah ne,au],Nat.zero_le _,ne,e2,fun _=>none,(Heap.Ns1.of_empty e3).at fun o q=>Heap.get?_push_of_some _ q,fun _=>True.intro,fun y hy=>absurd rfl hy⟩
theorem AA {prog:Program} {w:World} {env:Env} {e:Expr} {f:Str} {pos:Pos} {s:Shared} {Q:Value→Shared→Prop} (hb:attributeBase e f env (eval e env)=eval e env)
  (h:wpAny (model prog w) A (eval e env) (fun o s₁=>wpAny (model prog w) A (getAttr o f true) Q E s₁) E s):wpAny (model prog w) A (eval (.Attribute e f pos) env) Q E s:=
 Attribute_any_ h (by rw[arm_eval_Attribute,hb])
end
section
variable {X:Cx} {o e value:Expr} {f:Str} {pos pos' tpos:Pos} {ta tv:TE}
theorem Bc {pl:Sem Bool} {m:Str} {apos:Pos} {args:List Expr} {pins:List (Addr×Obj)} {s:Shared} {σ:St} {H:Hp} {Q:Value→Shared→Prop} {te:TE} (he:PE X e te) (I:Inv X pins σ H s)
  (h:te σ H fun x H1=>∃ a C dx fs g,x=.ref a∧H1 a=some (.ins C dx fs)∧Cls X.K C∧Meth X.K C m g∧fs.lookup m=none∧
   ∀ s1,Inv X pins σ H1 s1→wpAny (model X.prog X.w) X.A (callWith pos (.ref g) [.ref a] (backTo pos (starEach args X.env)) (backToKw pos (keywordEach [] X.env))) Q X.xe s1)
  (ht:eval (.Call (.Attribute e m apos) args [] pos) X.env=(do
   let ov ← eval e X.env
   standAt apos.atName
   let (f,first) ← holding [ov] (getMethod ov m pl)
   callWith pos f first (backTo pos (starEach args X.env)) (backToKw pos (keywordEach [] X.env)))) :
  wpAny (model X.prog X.w) X.A (eval (.Call (.Attribute e m apos) args [] pos) X.env) Q X.xe s:=by
 refine PySem.W.methodCall_KW (pl:=pl) (thn (he pins s σ H _ I h) fun u s1 ⟨x,H1,I1,rx,a,C,dx,fs,g,ex,ea,c,k,l,q⟩=>?_) ht
 subst ex
 obtain rfl:u=Value.ref a:=rx
 exact kj I1 ea c k l (q s1 I1)
end
section
variable {X:Cx} {pins:List (Addr×Obj)} {σ:St} {H:Hp} {s:Shared} {A:Around} {E:Value→Shared→Prop} {Q:Value→Shared→Prop} {c:Value} {b:Bool}
inductive kv (K:PySem.W.Frag) (H:Hp):V→Value→Prop where
 | non:kv K H .non (.type "NoneType")
 | bl (x:Bool):kv K H (.bl x) (.type "bool")
 | int (i:Int):kv K H (.int i) (.type "int")
 | str (x:Str):kv K H (.str x) (.type "str")
 | flt (x:UInt64):kv K H (.flt x) (.type "float")
 | lst {a:Addr} {xs:List V} (e:H a=some (.lst xs)):kv K H (.ref a) (.type "list")
 | frz {a:Addr} {o:Obj} {xs:List V} (e:H a=some (.frz o (.lst xs))):kv K H (.ref a) (.type "list")
 | tup {a:Addr} {xs:List V} (e:H a=some (.tup xs)):kv K H (.ref a) (.type "tuple")
 | dK {a:Addr} {kvs:List (Key×V)} (e:H a=some (.dK kvs)):kv K H (.ref a) (.type "dict")
 | dT {a:Addr} {kvs:List (List Key×V)} (e:H a=some (.dT kvs)):kv K H (.ref a) (.type "dict")
 | ins {a C dx:Addr} {fs:List (Str×V)} (e:H a=some (.ins C dx fs)) (cl:Cls K C) (ha:PySem.W.findIn K (.ref C) "__class__"=some (some (.builtin "object.__class__")))
   (hn:PySem.W.specialIn K (.builtin "object.__class__") "__get__"=some (some (.builtin "getset_descriptor.__get__"))) (htk:PySem.W.takesIn K (.builtin "object.__class__")=some true)
   (hm:PySem.W.mroIn K C (.type "object")=some true):kv K H (.ref a) (.ref C)
theorem oZ {x:V} {u t:Value} (I:Inv X pins σ H s) (rx:RelV x u) (ty:kv X.K H x t) (e:PySem.W.kitOne X.K t c=some b) (h:∀ tk,Q (.bool b) { s with toks:=tk }) :
  wpAny (model X.prog X.w) A (call (.builtin "isinstance") [u,c]) Q E s:=by
 cases ty with
 | non=>cases (show u=Value.none from rx);exact PySem.W.kia_one PySem.W.kitx_none I.kIn True.intro e (fun z=>nomatch z) h
 | bl y=>cases (show u=Value.bool y from rx);exact PySem.W.kia_one PySem.W.kitx_bool I.kIn True.intro e (fun z=>nomatch z) h
 | int i=>obtain⟨t,q⟩:=(show ∃ t,u=Value.int i t from rx);cases q;exact PySem.W.kia_one PySem.W.kitx_int I.kIn True.intro e (fun z=>nomatch z) h
 | str y=>obtain⟨t,q⟩:=(show ∃ t,u=Value.str y t from rx);cases q;exact PySem.W.kia_one PySem.W.kitx_str I.kIn True.intro e (fun z=>nomatch z) h
 | flt y=>obtain⟨t,q⟩:=(show ∃ t,u=Value.float y t from rx);cases q;exact PySem.W.kia_one PySem.W.kitx_float I.kIn True.intro e (fun z=>nomatch z) h
 | @lst a xs ea=>
  cases (show u=Value.ref a from rx)
  obtain⟨_,_,n,_,h1⟩:=(show bX X.prog X.w H s.heap a (.lst xs) from I.hok a _ ea)
  exact PySem.W.kia_one PySem.W.kitx_list I.kIn ⟨_,h1,rfl⟩ e (fun z=>nomatch z) h
 | @frz a ob xs ea=>
  cases (show u=Value.ref a from rx)
  obtain⟨_,_,_,n,_,h1⟩:=(show bX X.prog X.w H s.heap a (.frz ob (.lst xs)) from I.hok a _ ea)
  exact PySem.W.kia_one PySem.W.kitx_list I.kIn ⟨_,h1,rfl⟩ e (fun z=>nomatch z) h
 | @tup a xs ea=>
  cases (show u=Value.ref a from rx)
  obtain⟨_,_,_,p⟩:=(show bX X.prog X.w H s.heap a (.tup xs) from I.hok a _ ea)
  obtain⟨o,h1,h2,_⟩:=p
  exact PySem.W.kia_one PySem.W.kitx_tuple I.kIn ⟨o,h1,h2⟩ e (fun z=>nomatch z) h
 | @dK a kvs ea=>
  cases (show u=Value.ref a from rx)
  obtain⟨_,_,vs,_,p⟩:=(show bX X.prog X.w H s.heap a (.dK kvs) from I.hok a _ ea)
  obtain⟨o,es,ep,h1,h2,_⟩:=p
  exact PySem.W.kia_one PySem.W.kitx_dict I.kIn ⟨o,h1,h2.1⟩ e (fun z=>nomatch z) h
 | @dT a kvs ea=>
  cases (show u=Value.ref a from rx)
  obtain⟨_,_,xs,_,o,es,ep,h1,h2,_⟩:=(show bX X.prog X.w H s.heap a (.dT kvs) from I.hok a _ ea)
  exact PySem.W.kia_one PySem.W.kitx_dict I.kIn ⟨o,h1,h2.1⟩ e (fun z=>nomatch z) h
 | @ins a C dx fs ea cl ha hn htk hm=>
  cases (show u=Value.ref a from rx)
  obtain⟨mA,O,_⟩:=qx I.hok ea
  obtain⟨od,J,_⟩:=O.look
  exact PySem.W.kia_one (PySem.W.kitx_own (cl.get _) cl.hd ha hn htk hm) I.kIn J e (fun z=>nomatch z) h
end
end L2
namespace L2
open PySem PySem.Spec PyProof.Rows
structure bO (k:Nat) (A:Around):Prop where
 hd:A.handled=none
 dp:A.depth + 3 * k + 5 < recursionLimit
 un:A.units + 16 * k + 200 < cLine
 gd:A.guards=some []
theorem bO.mono {j k:Nat} {A:Around} (r:bO k A) (h:j≤k):bO j A:=⟨r.hd,by have:=r.dp;omega,by have:=r.un;omega,r.gd⟩
theorem bO.deeper {k:Nat} {A:Around} (r:bO (k + 1) A) (env:Env):bO k (A.deeper env):=
 ⟨r.hd,by have:=r.dp;show A.depth + 1 + 3 * k + 5 < _;omega,by have:=r.un;show A.units + 3 + 16 * k + 200 < _;omega,r.gd⟩
theorem tu {A:Around} {C:Addr} {us:List Value} {kw:List (Str×Value)}:(A.under (.builtin "type.__call__" ⟨.ref C::us,kw⟩)).depth=A.depth + 1:=by
 first | rfl | simp [Around.under,Code.weight,Code.isCreation,Code.isGuard,Code.isCaller,Code.frames,Code.isFrame,guardIds]
theorem tm {A:Around} {C:Addr} {us:List Value} {kw:List (Str×Value)}:(A.under (.builtin "type.__call__" ⟨.ref C::us,kw⟩)).units=A.units + 1:=by
 first | rfl | simp [Around.under,Code.cUnits,Code.frames,Code.isFrame]
theorem rO {A:Around} {C:Addr} {us:List Value} {kw:List (Str×Value)}:(A.under (.builtin "type.__call__" ⟨.ref C::us,kw⟩)).guards=A.guards:=by
 first | rfl | simp [Around.under,pushGuards,Code.guards,Code.isGuard,guardIds] | (cases A;simp [Around.under,pushGuards,Code.guards,Code.isGuard,guardIds])
theorem bO.make {k:Nat} {A:Around} (r:bO (k + 1) A) (C:Addr) (us:List Value) (kw:List (Str×Value)):bO k (A.under (.builtin "type.__call__" ⟨.ref C::us,kw⟩)):=
 ⟨r.hd,by have:=r.dp;rw[tu];omega,by have:=r.un;rw[tm];omega,by have:=r.gd;rw[rO];exact this⟩
theorem bO.depth {k:Nat} {A:Around} (r:bO k A):A.depth < recursionLimit:=by have:=r.dp;omega
def mR:TA:=fun _ H Q=>Q [] H
def mS (ta:TE) (tr:TA):TA:=fun σ H Q=>ta σ H fun x H1=>tr σ H1 fun xs H2=>Q (x::xs) H2
section
variable {X:Cx} {e:Expr} {es:List Expr} {te:TE} {t:TA} {pos:Pos}
theorem ja:PA X [] mR:=fun _ _ _ _ H Q I h=>Calls.spliced_nil ⟨[],H,I,.nil,h⟩
theorem cT (ha:PE X e te) (hr:PA X es t) (hs:starEach (e::es) X.env=(false,eval e X.env)::starEach es X.env:=by rfl):PA X (e::es) (mS te t):=by
 intro pos pins s σ H Q I h
 rw[hs]
 show wpAny _ _ (spliced ((false,eval e X.env)::backTo pos (starEach es X.env))) _ _ s
 refine Calls.spliced_cons (thn (ha pins s σ H _ I h) fun u s1 ⟨x,H1,I1,r1,q1⟩=>?_)
 exact thn (hr pos pins s1 σ H1 _ I1 q1) fun us s2 ⟨xs,H2,I2,r2,q2⟩=>⟨x::xs,H2,I2,.cons r1 r2,q2⟩
def El (t:TA):TE:=fun σ H Q=>t σ H fun xs H1=>xs.length≤sizeLine∧∀ p,H1 p=none→Q (.ref p) (upd H1 p (.tup xs))
def Ep (t:TA):TE:=fun σ H Q=>t σ H fun xs H1=>xs.length≤sizeLine∧∀ p,H1 p=none→Q (.ref p) (upd H1 p (.lst xs))
theorem CY {x1} (h:PA X es t):PE X (.Tuple es x1 pos) (El t):=by
 intro pins s σ H Q I hq
 refine wpAny_Tuple_spliced (thn (h pos pins s σ H _ I hq) fun us s1 ⟨xs,H1,I1,r,z,q⟩=>⟨by rw[← r.length];exact z,?_⟩)
 have hf:H1 s1.heap.objs.size=none:=I1.hok.fresh (Nat.le_refl _)
 refine⟨.ref s1.heap.objs.size,upd H1 s1.heap.objs.size (.tup xs),I1.laid (t':=s1.toks) (fun b u e=>Heap.get?_push_of_some _ e) (Nat.le_refl _) ?_,rfl,q _ hf⟩
 exact⟨z,us,r,⟨_,Heap.get?_push_size _ rfl,rfl,_,rfl⟩⟩
theorem C4 (h:PA X es t):PE X (.List es pos) (Ep t):=by
 intro pins s σ H Q I hq
 refine wpAny_List_spliced (thn (h pos pins s σ H _ I hq) fun us s1 ⟨xs,H1,I1,r,z,q⟩=>⟨by rw[← r.length];exact z,?_⟩)
 have hf:H1 s1.heap.objs.size=none:=I1.hok.fresh (Nat.le_refl _)
 refine⟨.ref s1.heap.objs.size,upd H1 s1.heap.objs.size (.lst xs),I1.laid (t':=s1.toks) (fun b u e=>Heap.get?_push_of_some _ e) (Nat.le_refl _) ?_,rfl,q _ hf⟩
 exact⟨z,us,0,r,Heap.get?_push_size _ rfl⟩
end
abbrev Sp:=List V→Hp→VK→XK→Prop
abbrev CXT:=List Env→Hp→Shared→XK→Value→Shared→Prop
structure tX (P:Program) (w:World) (K:PySem.W.Frag) (mg:Str→Option Value) (base:Heap) (A:Around) (outer:List Env) (s:Shared) (H:Hp):Prop where
 frames:A.frames=some outer
 mod:Mod K mg base
 bs:∀ b o,base.get? b=some o→s.heap.get? b=some o∧Kpt H b o
 bsz:base.objs.size≤s.heap.objs.size
 iR:s.heap.FunFrames base outer
 frf:∀ b∈frs outer,H b=none
 hok:HOk P w H s.heap
 bare:AllBare s.gens
 tb:TabsAt base H
def CE (outer:List Env) (P:Program) (w:World) (H:Hp) (s:Shared) (Q:VK) (u:Value) (s':Shared):Prop:=
 ∃ v H',s'.os=s.os∧AllBare s'.gens∧Un (frs outer) [] H H' s.heap s'.heap∧HOk P w H' s'.heap∧RelV v u∧Q v H'
def CR (CX:CXT) (outer:List Env) (P:Program) (w:World) (H:Hp) (s:Shared) (Q:VK) (E:XK) (r:Result) (s':Shared):Prop:=
 match r with
 | .ok (.ret u)=>CE outer P w H s Q u s'
 | .ok _=>False
 | .error e=>CX outer H s E e s'
structure aM (P:Program) (w:World) (K:PySem.W.Frag) (mg:Str→Option Value) (base:Heap) (CX:CXT) (k:Nat) (f:Addr) (fd:FuncData) (ps:List Str) (sp:Sp):Prop where
 len:∀ vs H Q E,sp vs H Q E→vs.length=ps.length
 run:∀ (A:Around) (outer:List Env) (s:Shared) (H:Hp) (args:Args) (us:List Value) (vs:List V) (Q:VK) (E:XK),bO k A→tX P w K mg base A outer s H→BindsTo s fd args (ps.zip us)→Vals vs us→sp vs H Q E→
  codeAny (model P w) A (.call (.ref f) args) (CR CX outer P w H s Q E) s
theorem aM.imp {P:Program} {w:World} {K:PySem.W.Frag} {mg:Str→Option Value} {base:Heap} {CX:CXT} {k:Nat} {f:Addr} {fd:FuncData} {ps:List Str} {sp sp':Sp} (F:aM P w K mg base CX k f fd ps sp)
  (h:∀ vs H Q E,sp' vs H Q E→sp vs H Q E):aM P w K mg base CX k f fd ps sp':=
 ⟨fun vs H Q E q=>F.len vs H Q E (h _ _ _ _ q),fun A outer s H args us vs Q E hr he hb hv hs=>F.run A outer s H args us vs Q E hr he hb hv (h _ _ _ _ hs)⟩
theorem tX.make {P:Program} {w:World} {K:PySem.W.Frag} {mg:Str→Option Value} {base:Heap} {A:Around} {outer:List Env} {s:Shared} {H:Hp} (e:tX P w K mg base A outer s H) (C:Addr) (us:List Value) (kw:List (Str×Value)) :
  tX P w K mg base (A.under (.builtin "type.__call__" ⟨.ref C::us,kw⟩)) outer s H:=⟨by first | exact e.frames | (simpa [Around.under,Code.envs,Code.isFrame,pushEnvs] using e.frames),e.mod,e.bs,e.bsz,e.iR,e.frf,e.hok,e.bare,e.tb⟩
section
variable {X:Cx} {pins:List (Addr×Obj)} {σ:St} {H:Hp} {s s':Shared}
theorem Inv.DU (I:Inv X pins σ H s):tX X.prog X.w X.K X.mg X.base X.A X.stack s H:=
 ⟨I.ok.frames,I.ok.mod,I.bs,Nat.le_trans I.ok.bsz I.sz,I.stack,I.pU,I.hok,I.bare,I.tb⟩
theorem Inv.after {Q:VK} {u:Value} (I:Inv X pins σ H s) (h:CE X.stack X.prog X.w H s Q u s'):EP X pins σ Q u s':=by
 obtain⟨v,H',os,bare,un,hok,r,q⟩:=h
 obtain⟨hh,g,d,t,os'⟩:=s'
 obtain rfl:os'=s.os:=os
 exact⟨v,H',I.call (h':=hh) (g':=g) (d':=d) (t':=t) (ch:=[]) un hok bare (fun b z=>absurd z (by simp)),r,q⟩
end
def oC (sp:Sp) (dvs:List V) (E:XK) (t:TA):TE:=fun σ H Q=>t σ H fun vs H1=>sp (vs++dvs) H1 Q E
def qY (C:Addr) (m:Str) (sp:Sp) (dvs:List V) (E:XK) (ta:TE) (t:TA):TE:=fun σ H Q=>ta σ H fun x H1=>∃ a dx fs,x=.ref a∧H1 a=some (.ins C dx fs)∧fs.lookup m=none∧
 t σ H1 fun vs H2=>sp (x::(vs++dvs)) H2 Q E
def Binds (K:PySem.W.Frag) (fd:FuncData) (ps:List Str) (ds:List Value):Prop:=
 ∀ (s:Shared) (us:List Value),K.In s.heap→(us++ds).length=ps.length→BindsTo s fd ⟨us,[]⟩ (ps.zip (us++ds))
theorem Binds.all {K:PySem.W.Frag} {fd:FuncData} {ps:List Str} (h:∀ us:List Value,us.length=ps.length→bindArgs fd ⟨us,[]⟩=pure (ps.zip us)):Binds K fd ps []:=fun s us _ hl=>by
 rw[List.append_nil] at hl ⊢
 exact .of_eq (h us hl)
def Passes (CX:CXT) (X:Cx) (E:XK):Prop:=∀ (pins:List (Addr×Obj)) (σ:St) (H:Hp) (s:Shared) (e:Value) (s':Shared),Inv X pins σ H s→CX X.stack H s E e s'→X.xe e s'
section
variable {X:Cx} {CX:CXT} {k:Nat} {f C:Addr} {fd:FuncData} {ps:List Str} {sp:Sp} {dvs:List V} {ds:List Value} {E:XK} {x m:Str} {p pos apos:Pos} {e o:Expr} {es:List Expr} {ta:TE} {t:TA}
theorem lD {pins:List (Addr×Obj)} {σ:St} {H:Hp} {s:Shared} {Q:VK} {us:List Value} {vs:List V} (F:aM X.prog X.w X.K X.mg X.base CX k f fd ps sp) (hr:bO k X.A) (hb:Binds X.K fd ps ds) (hd:Vals dvs ds) (hx:Passes CX X E)
  (I:Inv X pins σ H s) (r:Vals vs us) (h:sp (vs++dvs) H Q E):wpAny (model X.prog X.w) X.A (call (.ref f) us) (EP X pins σ Q) X.xe s:=by
 have r2:Vals (vs++dvs) (us++ds):=r.append hd
 have hl:(us++ds).length=ps.length:=by rw[← r2.length];exact F.len _ _ _ _ h
 refine wpAny_call (codeAny_mono (F.run X.A X.stack s H ⟨us,[]⟩ (us++ds) (vs++dvs) Q E hr I.DU (hb s us I.kIn hl) r2 h) fun r s' hq=>?_)
 cases r with
 | error e=>exact hx pins σ H s e s' I hq
 | ok fl=>
  cases fl with
  | ret u=>exact I.after hq
  | next=>exact False.elim hq
  | brk=>exact False.elim hq
  | cont=>exact False.elim hq
theorem z7 (F:aM X.prog X.w X.K X.mg X.base CX k f fd ps sp) (hr:bO k X.A) (hg:Gl X x) (hm:X.mg x=some (.ref f)) (hk:PySem.W.keepIn X.K (.ref f)=true) (hb:Binds X.K fd ps ds) (hd:Vals dvs ds) (hx:Passes CX X E)
  (ha:PA X (e::es) t) (hdb:(x == ("__debug__":Str))=false:=by decide) (he:starEach (e::es) X.env=(false,eval e X.env)::starEach es X.env:=by rfl) (hpl:(backTo pos (starEach es X.env)).any (·.1)=false:=by rfl) :
  PE X (.Call (.Name x p) (e::es) [] pos) (oC sp dvs E t):=by
 intro pins s σ H Q I h
 refine wpAny_Call_Name_kw (gz I hg hm ?_ hdb)
 refine PySem.W.callWith_K (h₀:=X.base) I.ok.mod.kin hk (thn (ha pos pins s σ H _ I h) fun us s1 ⟨vs,H1,I1,r,q⟩=>⟨I1.kIn,?_⟩) he hpl
 exact lD F hr hb hd hx I1 r q
theorem xC (F:aM X.prog X.w X.K X.mg X.base CX k f fd ps sp) (hr:bO k X.A) (hg:Gl X x) (hm:X.mg x=some (.ref f)) (hk:PySem.W.keepIn X.K (.ref f)=true) (hb:Binds X.K fd ps ds) (hd:Vals dvs ds) (hx:Passes CX X E)
  (hdb:(x == ("__debug__":Str))=false:=by decide):PE X (.Call (.Name x p) [] [] pos) (oC sp dvs E mR):=by
 intro pins s σ H Q I h
 refine wpAny_Call_Name_kw (gz I hg hm ?_ hdb)
 exact PySem.W.callWith_K0 I.kIn hk (lD (us:=[]) F hr hb hd hx I .nil h)
theorem z4 {pl:Sem Bool} (he:PE X o ta) (c:Cls X.K C) (hm:Meth X.K C m f) (F:aM X.prog X.w X.K X.mg X.base CX k f fd ps sp) (hr:bO k X.A) (hb:Binds X.K fd ps ds) (hd:Vals dvs ds) (hx:Passes CX X E) (ha:PA X (e::es) t)
  (hst:starEach (e::es) X.env=(false,eval e X.env)::starEach es X.env:=by rfl) (hpl:(backTo pos (starEach es X.env)).any (·.1)=false:=by rfl)
  (ht:eval (.Call (.Attribute o m apos) (e::es) [] pos) X.env=(do
   let ov ← eval o X.env
   standAt apos.atName
   let (f,first) ← holding [ov] (getMethod ov m pl)
   callWith pos f first (backTo pos (starEach (e::es) X.env)) (backToKw pos (keywordEach [] X.env))):=by rfl) :
  PE X (.Call (.Attribute o m apos) (e::es) [] pos) (qY C m sp dvs E ta t):=by
 intro pins s σ H Q I h
 refine PySem.W.methodCall_KW (pl:=pl) (thn (he pins s σ H _ I h) fun u s1 ⟨x,H1,I1,rx,a,dx,fs,ex,ea,l,q⟩=>?_) ht
 subst ex
 obtain rfl:u=Value.ref a:=rx
 refine kj I1 ea c hm l ?_
 refine PySem.W.callWith_K (first:=[.ref a]) (h₀:=X.base) I.ok.mod.kin hm.kp (thn (ha pos pins s1 σ H1 _ I1 q) fun us s2 ⟨vs,H2,I2,r,q2⟩=>⟨I2.kIn,?_⟩) hst hpl
 exact lD (us:=.ref a::us) (vs:=.ref a::vs) F hr hb hd hx I2 (.cons rfl r) q2
theorem xu {pl:Sem Bool} (he:PE X o ta) (c:Cls X.K C) (hm:Meth X.K C m f) (F:aM X.prog X.w X.K X.mg X.base CX k f fd ps sp) (hr:bO k X.A) (hb:Binds X.K fd ps ds) (hd:Vals dvs ds) (hx:Passes CX X E)
  (ht:eval (.Call (.Attribute o m apos) [] [] pos) X.env=(do
   let ov ← eval o X.env
   standAt apos.atName
   let (f,first) ← holding [ov] (getMethod ov m pl)
   callWith pos f first (backTo pos (starEach [] X.env)) (backToKw pos (keywordEach [] X.env))):=by rfl) :
  PE X (.Call (.Attribute o m apos) [] [] pos) (qY C m sp dvs E ta mR):=by
 intro pins s σ H Q I h
 refine PySem.W.methodCall_KW (pl:=pl) (thn (he pins s σ H _ I h) fun u s1 ⟨x,H1,I1,rx,a,dx,fs,ex,ea,l,q⟩=>?_) ht
 subst ex
 obtain rfl:u=Value.ref a:=rx
 refine kj I1 ea c hm l ?_
 exact PySem.W.callWith_K0 (first:=[.ref a]) I1.kIn hm.kp (lD (us:=[.ref a]) (vs:=[.ref a]) F hr hb hd hx I1 (.cons rfl .nil) q)
end
section
variable {X:Cx} {CX:CXT} {k:Nat} {f C:Addr} {fd:FuncData} {ps ks:List Str} {sp:Sp} {E:XK} {x m:Str} {p pos apos kpos:Pos} {e o:Expr} {es:List Expr} {kws:List Keyword} {te ta:TE} {t tk:TA} {nm:Option Str}
variable {g:List Value→List Value→List Value} {gV:List V→List V→List V}
end
structure av (N P:List Str) (sc:Scope):Prop where
 kind:sc.kind=.function
 co:sc.isCoroutine=false
 gen:sc.isGenerator=false
 nd:N.Nodup
 pre:N.take P.length=P
 par:∀ x∈P,sc.names.lookup x=some .local∨sc.names.lookup x=some .cell
 nofree:∀ y∈sc.names,y.2≠.free
theorem pw {kindOf:Str→Option NameKind} {x:Str}:∀ {binds:List (Str×Value)} {m:Str→Option Value},(∀ v,(x,v)∉binds)→bindL kindOf binds m x=m x
 | [],_,_=>rfl
 | (n,v)::r,m,h=>by
  unfold bindL
  rw[pw fun w hw=>h w (List.mem_cons_of_mem _ hw)]
  split
  ·have:x≠n:=by rintro rfl;exact h v List.mem_cons_self
   simp [this]
  ·rfl
theorem pA {kindOf:Str→Option NameKind} {x:Str}:∀ {binds:List (Str×Value)} {m:Str→Option Value},(∀ v,(x,v)∉binds)→bindC kindOf binds m x=m x
 | [],_,_=>rfl
 | (n,v)::r,m,h=>by
  unfold bindC
  rw[pA fun w hw=>h w (List.mem_cons_of_mem _ hw)]
  split
  ·rfl
  ·have:x≠n:=by rintro rfl;exact h v List.mem_cons_self
   simp [this]
theorem pz {kindOf:Str→Option NameKind} {x:Str} {v:Value}:∀ {P:List Str} {vs:List Value} {i:Nat} {m:Str→Option Value},P.Nodup→P[i]?=some x→vs[i]?=some v→kindOf x=some .local→
  bindL kindOf (P.zip vs) m x=some v
 | [],_,_,_,_,h,_,_=>by simp at h
 | _::_,[],_,_,_,_,h,_=>by simp at h
 | p::P,w::vs,0,m,nd,h1,h2,hk=>by
  simp at h1 h2;subst h1;subst h2
  show bindL kindOf ((p,w)::P.zip vs) m p=_
  unfold bindL
  rw[pw fun v hv=>(List.nodup_cons.mp nd).1 (List.of_mem_zip hv).1,if_pos hk]
  simp
 | p::P,w::vs,i + 1,m,nd,h1,h2,hk=>by
  show bindL kindOf ((p,w)::P.zip vs) m x=_
  unfold bindL
  exact pz (i:=i) (List.nodup_cons.mp nd).2 (by simpa using h1) (by simpa using h2) hk
theorem pC {kindOf:Str→Option NameKind} {x:Str} {v:Value}:∀ {P:List Str} {vs:List Value} {i:Nat} {m:Str→Option Value},P.Nodup→P[i]?=some x→vs[i]?=some v→kindOf x≠some .local→
  bindC kindOf (P.zip vs) m x=some v
 | [],_,_,_,_,h,_,_=>by simp at h
 | _::_,[],_,_,_,_,h,_=>by simp at h
 | p::P,w::vs,0,m,nd,h1,h2,hk=>by
  simp at h1 h2;subst h1;subst h2
  show bindC kindOf ((p,w)::P.zip vs) m p=_
  unfold bindC
  rw[pA fun v hv=>(List.nodup_cons.mp nd).1 (List.of_mem_zip hv).1,if_neg hk]
  simp
 | p::P,w::vs,i + 1,m,nd,h1,h2,hk=>by
  show bindC kindOf ((p,w)::P.zip vs) m x=_
  unfold bindC
  exact pC (i:=i) (List.nodup_cons.mp nd).2 (by simpa using h1) (by simpa using h2) hk
def start (N:List Str) (vs:List V):St:=vs.map some++List.replicate (N.length - vs.length) none
def jO (CX:CXT) (P:Program) (w:World) (K:PySem.W.Frag) (mg:Str→Option Value) (base:Heap) (N:List Str) (qual:Str) (scope:Scope) (f:Addr) (cd:Value) (A:Around) (outer:List Env) (s:Shared) (H:Hp) (E:XK):Cx where
 prog:=P
 w:=w
 K:=K
 mg:=mg
 base:=base
 A:=A.deeper (envOfC qual scope s.heap.objs.size f cd)
 N:=N
 s₀:=s
 H₀:=H
 env:=envOfC qual scope s.heap.objs.size f cd
 outer:=outer
 stack:=envOfC qual scope s.heap.objs.size f cd::outer
 ex:=[]
 calm:=true
 fn:=fun _=>true
 pn:=[]
 xe:=fun e s'=>wpAny (model P w) (A.deeper (envOfC qual scope s.heap.objs.size f cd)) (leaving (envOfC qual scope s.heap.objs.size f cd) e) (fun _ s''=>CX outer H s E e s'') (fun e' s''=>CX outer H s E e' s'') s'
theorem sh {sc:Scope} {n:Nat} {x:Str} (h:sc.names.lookup x=some .cell):∃ c,(cellsFrom n sc.names []).lookup x=some c:=by
 have q:=PySem.W.cellsFrom_some sc.names n [] (.inl h)
 exact Option.isSome_iff_exists.mp q
theorem vW {CX:CXT} {P:Program} {w:World} {K:PySem.W.Frag} {mg:Str→Option Value} {base:Heap} {N ps:List Str} {qual:Str} {scope:Scope} {f:Addr} {cd:Value} {A:Around} {outer:List Env} {s s1:Shared} {H:Hp} {E:XK} {us:List Value} {vs:List V}
  (S:av N ps scope) (hd:A.handled=none) (e0:tX P w K mg base A outer s H) (hl:vs.length=ps.length) (r:Vals vs us)
  (x:InCallC s s.heap.objs.size (bindL (envOfC qual scope s.heap.objs.size f cd).kindOf (ps.zip us) fun _=>none) (cellsFrom (s.heap.objs.size + 1) scope.names []) (bindC (envOfC qual scope s.heap.objs.size f cd).kindOf (ps.zip us) fun _=>none) s1) :
  Inv (jO CX P w K mg base N qual scope f cd A outer s H E) [] (start N vs) H s1:=by
 have hpl:ps.length≤N.length:=by have:=congrArg List.length S.pre;rw[List.length_take] at this;omega
 obtain⟨h1,tk,rfl,hk⟩:=x.done
 have noA:∀ b:Addr,b∉(jO CX P w K mg base N qual scope f cd A outer s H E).ex:=fun b z=>absurd (show b∈([]:List Addr) from z) (by simp)
 refine⟨⟨e0.mod,S.kind,rfl,rfl,Nat.le_refl _,fun y z c h1 h2=>?_,fun y hy=>?_,fun y c _ h=>?_,fun _=>hd,Around.frames_deeper e0.frames,.inr ⟨rfl,rfl⟩,fun b z=>absurd z (noA b),e0.bs,e0.bsz,fun b _ _=>noA b,fun b z=>absurd z (noA b),e0.iR,e0.frf,e0.tb⟩,
  rfl,e0.bare,Un.kept hk,⟨_,x.toInCall.ns,fun i y v h1 h2 h3=>?_⟩,fun y c h=>⟨_,x.cell y c h⟩,e0.hok.fresh (Nat.le_refl _),fun y c h=>?_,fun p hp=>absurd (show p∈([]:List (Addr×Obj)) from hp) (by simp),e0.hok.kept hk,?_⟩
 ·exact name_of_addr x.apart (PySem.mem_of_lookup h1) (PySem.mem_of_lookup h2)
 ·have hy:scope.names.lookup y=some .cell∨scope.names.lookup y=some .free:=hy
  rcases hy with hy | hy
  ·exact sh hy
  ·exact absurd rfl (S.nofree _ (PySem.mem_of_lookup hy))
 ·exact Nat.le_of_lt (x.above y c (PySem.mem_of_lookup h))
 ·have hi:i < vs.length:=by
   unfold start at h2
   by_cases hi:i < vs.length
   ·exact hi
   ·rw[List.getElem?_append_right (by simpa using hi)] at h2
    rw[List.getElem?_replicate] at h2
    split at h2 <;> cases h2
  have ha:vs[i]?=some v:=by
   unfold start at h2
   rw[List.getElem?_append_left (by simpa using hi),List.getElem?_map] at h2
   cases e:vs[i]? with
   | none=>rw[e] at h2;cases h2
   | some a=>rw[e] at h2;cases h2;rfl
  obtain⟨u,hu,rv⟩:=r.get ha
  have hp:ps[i]?=some y:=by
   rw[← S.pre,List.getElem?_take_of_lt (by omega)];exact h1
  have ndP:ps.Nodup:=by rw[← S.pre];exact S.nd.sublist (List.take_sublist _ _)
  refine⟨u,rv,?_⟩
  rcases S.par y (List.mem_of_getElem? hp) with k | k
  ·exact .inl ⟨k,pz ndP hp hu k⟩
  ·obtain⟨c,e⟩:=sh (n:=s.heap.objs.size + 1) k
   refine .inr ⟨.inl k,c,e,?_⟩
   have q:=x.cell y c e
   rw[pC ndP hp hu (by show scope.names.lookup y≠_;rw[k];decide)] at q
   exact q
 ·exact e0.hok.fresh (Nat.le_of_lt (x.above y c (PySem.mem_of_lookup h)))
 ·unfold start
  show _=N.length
  rw[List.length_append,List.length_map,List.length_replicate]
  omega
theorem BS {CX:CXT} {P:Program} {w:World} {K:PySem.W.Frag} {mg:Str→Option Value} {base:Heap} {k:Nat} {f:Addr} {name qual:Str} {params:Arguments} {body:List Stmt} {scope:Scope} {dV kV doc pm cdv ct oc:Value} {an od:Option Addr}
  {osl:Array (Option Value)} {N ps:List Str} {sp:Sp} (lk:K.lookup f=some ⟨oc,od,.func (PySem.W.fnOf name qual params body scope dV kV doc pm an cdv ct),osl⟩) (hcd:PySem.W.codeIn K cdv qual=true) (S:av N ps scope)
  (len:∀ vs H Q E,sp vs H Q E→vs.length=ps.length)
  (hbody:∀ (A:Around) (outer:List Env) (s:Shared) (H:Hp) (vs:List V) (Q:VK) (E:XK),bO k (A.deeper (envOfC qual scope s.heap.objs.size f cdv))→sp vs H Q E→
   ∃ t,PSs (jO CX P w K mg base N qual scope f cdv A outer s H E) body t∧t { nx:=fun _ H'=>Q .non H',rt:=Q } (start N vs) H) :
  aM P w K mg base CX (k + 1) f (PySem.W.fnOf name qual params body scope dV kV doc pm an cdv ct) ps sp:=by
 refine⟨len,fun A outer s H args us vs Q E hr e0 hb r hsp=>?_⟩
 have hl:=len _ _ _ _ hsp
 have KX:K.In s.heap:=e0.mod.kin.keeps fun b o e=>(e0.bs b o e).1
 have lim:s.heap.NoLimit:=e0.mod.nolimit.keeps fun b o e=>(e0.bs b o e).1
 have hkind:∀ y∈ps.zip us,scope.names.lookup y.1=some .local∨(scope.names.lookup y.1=some .cell∧((cellsFrom (s.heap.objs.size + 1) scope.names []).lookup y.1).isSome=true):=fun ⟨n,v⟩ hy=>by
  rcases S.par n (List.of_mem_zip hy).1 with q | q
  ·exact .inl q
  ·exact .inr ⟨q,PySem.W.cellsFrom_some _ _ _ (.inl q)⟩
 refine codeAny_call_function hr.depth (KX _ _ lk) rfl S.co S.gen rfl (PySem.W.codeRec_of KX hcd) (hb _ _ _ _ ?_)
 refine wpAny_newFunctionEnv_cells S.kind hkind fun env he s1 x=>?_
 subst he
 refine⟨lim.keeps x.toInCall.keep,codeAny_func ?_⟩
 obtain⟨t,ht,hq⟩:=hbody A outer s H vs Q E (hr.deeper _) hsp
 have I:Inv (jO CX P w K mg base N qual scope f cdv A outer s H E) [] (start N vs) H s1:=vW S hr.hd e0 hl r x
 refine wpAny_mono (ht [] s1 (start N vs) H _ I hq) (fun fl s' hs=>?_) fun e s' hs=>hs
 have fin:∀ {σ':St} {H':Hp} {v:V} {u:Value},Inv (jO CX P w K mg base N qual scope f cdv A outer s H E) [] σ' H' s'→RelV v u→Q v H'→CE outer P w H s Q u s':=
  fun {σ' H' v u} J rv q=>⟨v,H',J.os,J.bare,J.base,J.hok,rv,q⟩
 cases fl with
 | ret u=>
  obtain⟨v,σ',H',J,rv,q⟩:=hs
  exact fin J rv q
 | next=>
  obtain⟨σ',H',J,q⟩:=hs
  exact fin (v:=V.non) (u:=Value.none) J rfl q
 | brk=>
  obtain⟨_,_,_,q⟩:=hs
  exact False.elim q
 | cont=>
  obtain⟨_,_,_,q⟩:=hs
  exact False.elim q
end L2
namespace L2
open PySem PySem.Spec PyProof.Rows
section
variable {X:Cx} {x:Str} {p pos:Pos} {e:Expr} {es:List Expr} {t:TA} {id T:String} {r:List V→Hp→VK→Prop}
def tCB (r:List V→Hp→VK→Prop) (t:TA):TE:=fun σ H Q=>t σ H fun vs H1=>r vs H1 Q
theorem xA (hc:dM X (.builtin id) r) (hg:Gl X x) (hm:X.mg x=none) (hv:bootBuiltins x=some (.builtin id)) (ha:PA X (e::es) t) (hn:x≠"__name__":=by decide) (hdb:(x == ("__debug__":Str))=false:=by decide)
  (he:starEach (e::es) X.env=(false,eval e X.env)::starEach es X.env:=by rfl) (hpl:(backTo pos (starEach es X.env)).any (·.1)=false:=by rfl):PE X (.Call (.Name x p) (e::es) [] pos) (tCB r t):=by
 intro pins s σ H Q I h
 refine wpAny_Call_Name_kw (kf I hg hm hv ?_ hn hdb)
 exact PyProof.Rows.callWith_builtin1 (thn (ha pos pins s σ H _ I h) fun us s1 ⟨vs,H1,I1,r1,q1⟩=>hc pins s1 σ H1 vs us Q I1 r1 q1) he hpl
end
end L2
namespace HT
open PySem PyProof.Rows
section
open PySem.SeqAt
open PySem.AutoSeq1 (wpAny_loadPart')
open PySem.MeetsSeq PySem.MeetsSeq2 PySem.MeetsSeq3
end
section
variable {prog:Program} {w:World} {A:Around} {E:Value→Shared→Prop} {s:Shared}
def sIx (n d:Nat):Option Int→Nat
 | none=>d
 | some v=>if v < 0 then (v + (n:Int)).toNat else min v.toNat n
theorem gW (n d:Nat):sIx n d none=d:=rfl
theorem ik (n d k:Nat):sIx n d (some (k:Int))=min k n:=by
 show (if (k:Int) < 0 then ((k:Int) + (n:Int)).toNat else min (k:Int).toNat n)=min k n
 rw[if_neg (by omega),Int.toNat_natCast]
end
end HT
namespace L2
open PySem PySem.Spec PyProof.Rows
abbrev TO:=St→Hp→(Option Int→Hp→Prop)→Prop
def PO (X:Cx) (e:Option Expr) (t:TO):Prop:=
 ∀ (pins:List (Addr×Obj)) (s:Shared) (σ:St) (H:Hp) (Q:Option Int→Hp→Prop),Inv X pins σ H s→t σ H Q→
  wpAny (model X.prog X.w) X.A (evalPart e X.env) (fun u s'=>∃ o H',Inv X pins σ H' s'∧IsPart u o∧Q o H') X.xe s
def t_:TO:=fun _ H Q=>Q none H
def AW (t:TE):TO:=fun σ H Q=>t σ H fun x H1=>∃ i,x=.int i∧Q (some i) H1
theorem intsAre_of {ns:List Int}:∀ {us:List Value},Vals (ns.map V.int) us→IntsAre us ns:=by
 induction ns with
 | nil=>intro us r;rw[List.map_nil] at r;cases r;exact .nil
 | cons n ns ih=>
  intro us r
  rw[List.map_cons] at r
  cases r with
  | cons r1 r2=>
   obtain⟨t,e⟩:=r1
   subst e
   exact .cons n t (ih r2)
section
variable {X:Cx} {e:Expr} {te:TE} {lo hi:Option Expr} {tl th:TO} {pos p2:Pos}
theorem zS:PO X none t_:=by
 intro pins s σ H Q I h
 rw[evalPart_none]
 exact wpAny_pure ⟨none,H,I,.none,h⟩
theorem zR (h:PE X e te):PO X (some e) (AW te):=by
 intro pins s σ H Q I hw
 rw[evalPart_some]
 refine thn (h pins s σ H _ I hw) fun u s1 ⟨x,H1,I1,r1,q1⟩=>?_
 obtain⟨i,rfl,q⟩:=q1
 obtain⟨t,rfl⟩:=r1
 exact⟨some i,H1,I1,.int i t,q⟩
def SlR (X:Cx) (r:V→Option Int→Option Int→Hp→VK→Prop):Prop:=
 ∀ (pins:List (Addr×Obj)) (s:Shared) (σ:St) (H:Hp) (x:V) (v vl vu:Value) (lo hi:Option Int) (sl:Addr) (Q:VK),Inv X pins σ H s→RelV x v→s.heap.IsSliceOf sl vl vu .none→IsPart vl lo→IsPart vu hi→r x lo hi H Q→
  ∃ T id,typeLookup (.type T) "__getitem__"=pure (some (.builtin id))∧s.TypeIs v T∧wpAny (model X.prog X.w) X.A (getItem v (.ref sl)) (EP X pins σ Q) X.xe s
def tSl (r:V→Option Int→Option Int→Hp→VK→Prop) (te:TE) (tl th:TO):TE:=fun σ H Q=>te σ H fun x H1=>tl σ H1 fun l H2=>th σ H2 fun u H3=>r x l u H3 Q
theorem xq {r:V→Option Int→Option Int→Hp→VK→Prop} (hr:SlR X r) (he:PE X e te) (hl:PO X lo tl) (hu:PO X hi th):PE X (.Subscript e (.Slice lo hi none p2) pos) (tSl r te tl th):=by
 intro pins s σ H Q I h
 refine Subscript_ (thn (he pins s σ H _ I h) fun v s1 ⟨x,H1,I1,r1,q1⟩=>?_)
 refine wpAny_Slice (thn (hl pins s1 σ H1 _ I1 q1) fun vl s2 ⟨l,H2,I2,pl,q2⟩=>thn (hu pins s2 σ H2 _ I2 q2) fun vu s3 ⟨u,H3,I3,pu,q3⟩=>?_)
 rw[evalPart_none]
 refine wpAny_pure ?_
 have I4:Inv X pins σ H3 { s3 with heap:=s3.heap.push { cls:=.type "slice",data:=.fields #[vl,vu,.none] } }:=I3.kept (t':=s3.toks) fun b ob q=>Heap.get?_push_of_some _ q
 obtain⟨T,id,hT,ht,hg⟩:=hr pins { s3 with heap:=s3.heap.push { cls:=.type "slice",data:=.fields #[vl,vu,.none] } } σ H3 x v vl vu l u s3.heap.objs.size Q I4 r1 (Heap.IsSliceOf.new ..) pl pu q3
 show wpAny (model X.prog X.w) X.A (subscriptTail e (.Slice lo hi none p2) v (.ref s3.heap.objs.size)) (EP X pins σ Q) X.xe { s3 with heap:=s3.heap.push { cls:=.type "slice",data:=.fields #[vl,vu,.none] } }
 exact tail_any (ops:=[.ref s3.heap.objs.size,v]) ht hT hg (by with_unfolding_all rfl)
def v_ (xs:List V) (lo hi:Option Int):List V:=(xs.drop (HT.sIx xs.length 0 lo)).take (HT.sIx xs.length xs.length hi - HT.sIx xs.length 0 lo)
theorem r_ (xs:List V) (lo hi:Option Int):(v_ xs lo hi).length≤xs.length:=by
 unfold v_
 rw[List.length_take,List.length_drop]
 omega
end
end L2
namespace L2
open PySem PySem.Spec PyProof.Rows
def ixN (n:Nat) (i:Int):Option Nat:=if 0≤i then (if i < n then some i.toNat else none) else if -(n:Int)≤i then some (i + n).toNat else none
def atI {α:Type} (xs:List α) (i:Int):Option α:=(ixN xs.length i).bind fun j=>xs[j]?
theorem uI {n:Nat} {i:Int} {j:Nat} (h:ixN n i=some j):seqIndex? i n=some j∧j < n∧-(n:Int)≤i∧i < n:=by
 unfold ixN at h
 by_cases h0:0≤i
 ·rw[if_pos h0] at h
  by_cases h1:i < n
  ·rw[if_pos h1] at h
   have e:i.toNat=j:=Option.some.inj h
   exact⟨by rw[seqIndex_of h0 h1,e],by omega,by omega,h1⟩
  ·rw[if_neg h1] at h;cases h
 ·rw[if_neg h0] at h
  by_cases h1:-(n:Int)≤i
  ·rw[if_pos h1] at h
   have e:(i + n).toNat=j:=Option.some.inj h
   exact⟨by rw[seqIndex_neg (by omega) h1,e],by omega,h1,by omega⟩
  ·rw[if_neg h1] at h;cases h
theorem qR {α:Type} {xs:List α} {i:Int} {v:α} (h:atI xs i=some v):∃ j,seqIndex? i xs.length=some j∧xs[j]?=some v∧j < xs.length∧-(xs.length:Int)≤i∧i < xs.length:=by
 unfold atI at h
 cases e:ixN xs.length i with
 | none=>rw[e] at h;cases h
 | some j=>
  rw[e] at h
  obtain⟨h1,h2,h3,h4⟩:=uI e
  exact⟨j,h1,h,h2,h3,h4⟩
theorem AD {α:Type} {xs:List α} {j:Nat} {v:α} (h:xs[j]?=some v):atI xs (j:Int)=some v:=by
 have hj:j < xs.length:=(List.getElem?_eq_some_iff.mp h).1
 have e:ixN xs.length (j:Int)=some j:=by
  unfold ixN
  rw[if_pos (by omega),if_pos (by omega)];simp
 unfold atI;rw[e];exact h
def vi (b:Expr):Prop:=∀ o i,subscripted b false o i=operate [o,i] (getItem o i)
def IxR (X:Cx) (r:R2):Prop:=
 ∀ (value slice:Expr) (pins:List (Addr×Obj)) (s:Shared) (σ:St) (H:Hp) (x y:V) (v u:Value) (Q:VK),Inv X pins σ H s→RelV x v→RelV y u→r x y H Q→
  subscripted slice false v u=operate [v,u] (getItem v u)→wpAny (model X.prog X.w) X.A (subscriptTail value slice v u) (EP X pins σ Q) X.xe s
def MtR (X:Cx) (id:String) (r:V→List V→Hp→VK→Prop):Prop:=
 ∀ (pins:List (Addr×Obj)) (s:Shared) (σ:St) (H:Hp) (x:V) (xs:List V) (v:Value) (us:List Value) (Q:VK),Inv X pins σ H s→RelV x v→Vals xs us→r x xs H Q→
  wpAny (model X.prog X.w) X.A (call (.builtin id) (v::us)) (EP X pins σ Q) X.xe s
section
variable {X:Cx} {a b:Expr} {ta tb:TE} {pos:Pos}
theorem IxR.or {r r':R2} (h:IxR X r) (h':IxR X r'):IxR X (fun x y H Q=>r x y H Q∨r' x y H Q):=by
 intro value slice pins s σ H x y v u Q I rx ry q hs
 rcases q with q | q
 ·exact h value slice pins s σ H x y v u Q I rx ry q hs
 ·exact h' value slice pins s σ H x y v u Q I rx ry q hs
theorem ES {r:R2} (hr:IxR X r) (ha:PE X a ta) (hb:PE X b tb) (hs:vi b):PE X (.Subscript a b pos) (tOp r ta tb):=by
 intro pins s σ H Q I h
 exact Subscript_ (FT ha hb I h fun v u s2 x y H2 I2 rx ry q=>hr a b pins s2 σ H2 x y v u Q I2 rx ry q (hs _ _))
def EI (K:PySem.W.Frag):R2:=fun x y H Q=>∃ p xs i v,x=.ref p∧y=.int i∧SqL K H p xs∧atI xs i=some v∧Q v H
def EG (K:PySem.W.Frag):R2:=fun x y H Q=>∃ p xs i v,x=.ref p∧y=.int i∧SqT K H p xs∧atI xs i=some v∧Q v H
def EH:R2:=fun x y H Q=>∃ z i c,x=.str z∧y=.int i∧z.length≤sizeLine∧atI z.cps.toList i=some c∧Q (.str ⟨#[c]⟩) H
theorem Aq:IxR X (EI X.K):=by
 intro value slice pins s σ H x y v u Q I rx ry h hs
 obtain⟨p,xs,i,z,rfl,rfl,hq,he,q⟩:=h
 cases rx
 obtain⟨t,rfl⟩:=ry
 obtain⟨its,r,pl,hz⟩:=I.list hq
 obtain⟨j,h1,h2,h3,h4,h5⟩:=qR he
 obtain⟨w,ew,rw'⟩:=r.get h2
 have hl:=r.length
 have hn:=lK
 have fin:EP X pins σ Q w s:=⟨z,H,I,rw',q⟩
 by_cases h0:0≤i
 ·have hj:i.toNat=j:=by
   rw[seqIndex_of h0 h5] at h1
   exact Option.some.inj h1
  exact item_listR pl.isList h0 (by omega) (by rw[hj];simpa using ew) fin hs
 ·have hj:(i + (its.toArray.size:Int)).toNat=j:=by
   rw[seqIndex_neg (by omega) h4] at h1
   rw[List.size_toArray,← hl]
   exact Option.some.inj h1
  exact subscriptTail_builtinR (x:=w) pl.isList.typeIs slot_list_getitem.lookup
   (wpAny_getItem_list_neg (Q:=fun r s'=>r=w∧EP X pins σ Q r s') pl.isList (by omega) (by rw[List.size_toArray] <;> omega) (by omega) (by rw[hj];simpa using ew) ⟨rfl,fin⟩) hs
theorem DG:IxR X (EG X.K):=by
 intro value slice pins s σ H x y v u Q I rx ry h hs
 obtain⟨p,xs,i,z,rfl,rfl,hq,he,q⟩:=h
 cases rx
 obtain⟨t,rfl⟩:=ry
 obtain⟨its,r,pl,hz⟩:=I.tuple hq
 obtain⟨j,h1,h2,h3,h4,h5⟩:=qR he
 obtain⟨w,ew,rw'⟩:=r.get h2
 have hl:=r.length
 have hn:=lK
 have fin:EP X pins σ Q w s:=⟨z,H,I,rw',q⟩
 exact subscriptTail_builtinR (x:=w) pl.typeIs slot_tuple_getitem.lookup
  (getItem_tuple (j:=j) (Q:=fun r s'=>r=w∧EP X pins σ Q r s') pl (by omega) (by omega) (by rw[List.size_toArray,← hl];exact h1) (by simpa using ew) ⟨rfl,fin⟩) hs
theorem DH:IxR X EH:=by
 intro value slice pins s σ H x y v u Q I rx ry h hs
 obtain⟨z,i,c,rfl,rfl,hz,he,q⟩:=h
 obtain⟨t,rfl⟩:=rx
 obtain⟨t',rfl⟩:=ry
 obtain⟨j,h1,h2,h3,h4,h5⟩:=qR he
 have hl:z.cps.toList.length=z.length:=by simp [Str.length]
 rw[hl] at h1 h4 h5
 have hn:=lK
 exact tail_any (typeIs_str s z t) slot_str_getitem.lookup (getItem_str (c:=c) (by
  have e1:decide (i < -(2 ^ 63:Int))=false:=decide_eq_false (by omega)
  have e2:decide (i≥2 ^ 63)=false:=decide_eq_false (by omega)
  rw[e1,e2,Bool.or_false]) (by rw[h1];simpa using h2) ⟨.str ⟨#[c]⟩,H,I.tok _,⟨_,rfl⟩,q⟩) hs
def rIx (K:PySem.W.Frag):R2:=fun x y H Q=>EI K x y H Q∨EG K x y H Q∨EH x y H Q
theorem DI:IxR X (rIx X.K):=Aq.or (DG.or DH)
theorem tj (its:List Value) (n j:Nat) (u:Value):Obj.mapSeq (·.setIfInBounds j u) { cls:=.type "list",data:=.seq its.toArray n }={ cls:=.type "list",data:=.seq (its.set j u).toArray n }:=by
 simp [Obj.mapSeq]
theorem Inv.lst {pins:List (Addr×Obj)} {σ:St} {H:Hp} {s:Shared} {p:Addr} {xs:List V} (I:Inv X pins σ H s) (h:H p=some (.lst xs)) :
  ∃ (its:List Value) (n:Nat),Vals xs its∧s.heap.get? p=some { cls:=.type "list",data:=.seq its.toArray n }∧xs.length≤sizeLine:=by
 obtain⟨z,its,n,r,e⟩:=I.hok p _ h
 exact⟨its,n,r,e,z⟩
theorem Inv.Dy {pins:List (Addr×Obj)} {σ:St} {H:Hp} {s:Shared} {p:Addr} {xs ys:List V} {its its':List Value} {n n':Nat} {f:Obj→Obj} (I:Inv X pins σ H s) (h:H p=some (.lst xs))
  (ho:s.heap.get? p=some { cls:=.type "list",data:=.seq its.toArray n }) (hf:f { cls:=.type "list",data:=.seq its.toArray n }={ cls:=.type "list",data:=.seq its'.toArray n' }) (r:Vals ys its') (hz:ys.length≤sizeLine) (t:Nat) :
  Inv X pins σ (upd H p (.lst ys)) { s with heap:=s.heap.update p f,toks:=t }:=by
 have e:(s.heap.update p f).get? p=some { cls:=.type "list",data:=.seq its'.toArray n' }:=by
  rw[Heap.get?_update_self f ho (by rw[hf] <;> rfl),hf]
 refine I.write (x:=p) (e:=p) (by rw[h];trivial) (.inl rfl) (fun b u hb q=>(Heap.get?_update_other _ _ (Ne.symm hb)).trans q) ⟨_,e⟩ ?_
 exact⟨hz,its',n',r,e⟩
def ur:V→V→V→Hp→(Hp→Prop)→Prop:=fun o i v H Q=>∃ p xs k j,o=.ref p∧i=.int k∧H p=some (.lst xs)∧ixN xs.length k=some j∧Q (upd H p (.lst (xs.set j v)))
theorem set_list:Gs X ur:=by
 intro pins s σ H o i v ov iv u Q I ro ri rv h
 obtain⟨p,xs,k,j,rfl,rfl,hp,hj,q⟩:=h
 cases ro
 obtain⟨t,rfl⟩:=ri
 obtain⟨its,n,r,ho,hz⟩:=I.lst hp
 obtain⟨h1,h2,h3,h4⟩:=uI hj
 have hl:=r.length
 have hn:=lK
 have I':Inv X pins σ (upd H p (.lst (xs.set j v))) { s with heap:=s.heap.update p (Obj.mapSeq (·.setIfInBounds j u)) }:=
  I.Dy hp ho (tj its n j u) (r.set rv j) (by rw[List.length_set];exact hz) s.toks
 by_cases h0:0≤k
 ·have hk:k.toNat=j:=by
   rw[seqIndex_of h0 h4] at h1
   exact Option.some.inj h1
  exact PySem.W.ki_setAt ho h0 (by omega) (by rw[List.size_toArray,← hl];exact h4) (by rw[hk];exact⟨_,I',q⟩)
 ·have hk:(k + (its.toArray.size:Int)).toNat=j:=by
   rw[seqIndex_neg (by omega) h3] at h1
   rw[List.size_toArray,← hl]
   exact Option.some.inj h1
  exact PySem.W.ki_setBack ho (by omega) (by rw[List.size_toArray,← hl];exact h3) (by omega) (by rw[hk];exact⟨_,I',q⟩)
theorem pX (lo hi:Option Int) (n:Nat):(sliceBounds lo hi none n).1=((HT.sIx n 0 lo:Nat):Int)∧(sliceBounds lo hi none n).2.1=((HT.sIx n n hi:Nat):Int)∧(sliceBounds lo hi none n).2.2=1:=by
 refine⟨?_,?_,rfl⟩
 ·cases lo with
  | none=>simp [sliceBounds,HT.sIx]
  | some i=>
   simp only[sliceBounds,HT.sIx,Option.getD_none,show (1:Int) > 0 by decide,if_true]
   by_cases h:i < 0
   ·simp only[h,if_true] <;> omega
   ·simp only[h,if_false] <;> omega
 ·cases hi with
  | none=>simp [sliceBounds,HT.sIx]
  | some i=>
   simp only[sliceBounds,HT.sIx,Option.getD_none,show (1:Int) > 0 by decide,if_true]
   by_cases h:i < 0
   ·simp only[h,if_true] <;> omega
   ·simp only[h,if_false] <;> omega
theorem oa (its:List Value) (lo hi:Option Int):slicePick its.toArray lo hi none=((its.drop (HT.sIx its.length 0 lo)).take (HT.sIx its.length its.length hi - HT.sIx its.length 0 lo)).toArray:=by
 obtain⟨h1,h2,h3⟩:=pX lo hi its.toArray.size
 unfold slicePick
 rw[h1,h2,h3]
 simp only[sliceRange_one,pick_run,List.size_toArray] <;> rfl
def EF (K:PySem.W.Frag):V→Option Int→Option Int→Hp→VK→Prop:=fun x lo hi H Q=>∃ a xs,x=.ref a∧SqL K H a xs∧∀ p,H p=none→Q (.ref p) (upd H p (.lst (v_ xs lo hi)))
theorem zx:SlR X (EF X.K):=by
 intro pins s σ H x v vl vu lo hi sl Q I rx hs pl pu h
 obtain⟨a,xs,rfl,hx,q⟩:=h
 cases rx
 obtain⟨its,r,ht,hz⟩:=I.list hx
 have hlen:=r.length
 refine⟨"list",_,slot_list_getitem.lookup,ht.isList.typeIs,?_⟩
 refine wpAny_getItem_list_slice ht.isList hs pl pu .none (by simp) ?_ (by rw[List.size_toArray] <;> omega)
 rw[oa,← hlen]
 refine⟨.ref s.heap.objs.size,_,I.laid (t':=s.toks) (o:=.lst (v_ xs lo hi)) (fun b ob q=>Heap.get?_push_of_some _ q) (Nat.le_refl _) ?_,rfl,q _ (I.hok.fresh (Nat.le_refl _))⟩
 exact⟨Nat.le_trans (r_ xs lo hi) hz,_,0,(r.drop (HT.sIx xs.length 0 lo)).take (HT.sIx xs.length xs.length hi - HT.sIx xs.length 0 lo),Heap.get?_push_size _ rfl⟩
theorem qK:dM X (.builtin "len") (fun xs H Q=>∃ p ys,xs=[.ref p]∧(SqL X.K H p ys∨SqT X.K H p ys)∧Q (.int ys.length) H):=by
 intro pins s σ H xs us Q I r h
 obtain⟨p,ys,rfl,hq,q⟩:=h
 obtain⟨u,rfl,rx⟩:=vals1 r
 cases rx
 have hn:=lK
 rcases hq with hq | hq
 ·obtain⟨its,r',pl,hz⟩:=I.list hq
  have hlen:=r'.length
  exact Calls.call_len_list pl.isList (by simp only[List.size_toArray] <;> omega) ⟨.int ys.length,H,I.tok _,⟨s.toks + 1,by rw[List.size_toArray,hlen]⟩,q⟩
 ·obtain⟨its,r',pl,hz⟩:=I.tuple hq
  have hlen:=r'.length
  exact len_tuple pl (by simp only[List.size_toArray] <;> omega) ⟨.int ys.length,H,I.tok _,⟨s.toks + 1,by rw[List.size_toArray,hlen]⟩,q⟩
theorem qJ:dM X (.builtin "len") (fun xs H Q=>∃ z,xs=[.str z]∧z.length≤sizeLine∧Q (.int z.length) H):=by
 intro pins s σ H xs us Q I r h
 obtain⟨z,rfl,hz,q⟩:=h
 obtain⟨u,rfl,t,rfl⟩:=vals1 r
 have hn:=lK
 exact len_str (by omega) ⟨.int z.length,H,I.tok _,⟨_,rfl⟩,q⟩
def tyV (K:PySem.W.Frag) (T:String) (x:V) (H:Hp):Prop:=match x with
 | .str _=>T="str"
 | .int _=>T="int"
 | .ref p=>(T="list"∧∃ xs,SqL K H p xs)∨(T="tuple"∧∃ o,K.lookup p=some o∧o.cls=.type "tuple"∧o.dict=none)∨
   (T="dict"∧((∃ kvs,H p=some (.dK kvs))∨∃ kvs,H p=some (.dT kvs)))∨(T="set"∧∃ S n,H p=some (.set S n))
 | _=>False
theorem Cj {pins:List (Addr×Obj)} {σ:St} {H:Hp} {s:Shared} {T:String} {x:V} {v:Value} (I:Inv X pins σ H s) (r:RelV x v) (ty:tyV X.K T x H) :
  s.TypeIs v T∧∀ a,v=.ref a→∃ ob,s.heap.get? a=some ob∧ob.dict=none:=by
 cases x with
 | str z=>
  obtain⟨t,rfl⟩:=r
  cases (show T="str" from ty)
  exact⟨typeIs_str s z t,fun _ e=>nomatch e⟩
 | int i=>
  obtain⟨t,rfl⟩:=r
  cases (show T="int" from ty)
  exact⟨typeIs_int s i t,fun _ e=>nomatch e⟩
 | ref p=>
  cases r
  rcases ty with ⟨rfl,xs,hq⟩ | ⟨rfl,o,hk,hc,hd⟩ | ⟨rfl,hk⟩ | ⟨rfl,S,n,hk⟩
  ·obtain⟨its,_,pl,_⟩:=I.list hq
   refine⟨pl.isList.typeIs,fun a e=>?_⟩
   cases e
   obtain⟨o,n,e,c,hd,_⟩:=pl
   exact⟨o,e,hd⟩
  ·refine⟨⟨o,I.kIn p o hk,hc⟩,fun a e=>?_⟩
   cases e
   exact⟨o,I.kIn _ o hk,hd⟩
  ·have z:∃ o,s.heap.get? p=some o∧o.ExactDict:=by
    rcases hk with ⟨kvs,hk⟩ | ⟨kvs,hk⟩
    ·obtain⟨_,_,_,_,o,_,_,e,ex,_⟩:=I.hok p _ hk
     exact⟨o,e,ex⟩
    ·obtain⟨_,_,_,_,o,_,_,e,ex,_⟩:=I.hok p _ hk
     exact⟨o,e,ex⟩
   obtain⟨o,e,ex⟩:=z
   refine⟨⟨o,e,ex.1⟩,fun a e2=>?_⟩
   cases e2
   exact⟨o,e,ex.2.1⟩
  ·obtain⟨o,_,_,_,e,ex,_⟩:=I.hok p _ hk
   refine⟨⟨o,e,ex.1⟩,fun a e2=>?_⟩
   cases e2
   exact⟨o,e,ex.2.1⟩
 | _=>exact False.elim ty
def tBM (K:PySem.W.Frag) (T:String) (r:V→List V→Hp→VK→Prop) (to:TE) (t:TA):TE:=fun σ H Q=>to σ H fun x H1=>tyV K T x H1∧t σ H1 fun xs H2=>r x xs H2 Q
variable {o e:Expr} {es:List Expr} {to:TE} {t:TA} {name:Str} {apos cpos:Pos} {T id:String} {r:V→List V→Hp→VK→Prop}
theorem A6 (pa:PlainAttrs T) (slot:Slot T name id) (hty:typeOf (.builtin id)=pure (.type "method_descriptor")) (hm:MtR X id r) (ho:PE X o to) (ha:PA X (e::es) t)
  (hbase:attributeBase o name X.env (eval o X.env)=eval o X.env:=by rfl)
  (hfew:((backTo cpos (starEach (e::es) X.env)).all (fun x=>!x.1) && (backToKw cpos (keywordEach [] X.env)).all (fun x=>x.1.isSome)
   && decide ((e::es).length + ([]:List Keyword).length + (if ([]:List Keyword).isEmpty then 0 else 1) < 30))=true:=by rfl)
  (hline:(apos.endLine == cpos.line)=true:=by rfl) (hs:starEach (e::es) X.env=(false,eval e X.env)::starEach es X.env:=by rfl) (hplain:(backTo cpos (starEach es X.env)).any (·.1)=false:=by rfl) :
  PE X (.Call (.Attribute o name apos) (e::es) [] cpos) (tBM X.K T r to t):=by
 intro pins s σ H Q I h
 refine wpAny_Call_method_late hbase hfew hline rfl (thn (ho pins s σ H _ I h) fun v s1 ⟨x,H1,I1,r1,ty,q1⟩=>?_)
 obtain⟨h1,h2⟩:=Cj I1 r1 ty
 refine⟨T,id,pa,slot,hty,h1,h2,?_⟩
 have hA:=ha cpos pins s1 σ H1 _ I1 q1
 rw[hs] at hA ⊢
 refine Calls.callWith_builtin (by show (false || (backTo cpos (starEach es X.env)).any (·.1))=false;rw[hplain] <;> rfl) (Calls.evalArgs_plain ?_)
 exact thn hA fun us s2 ⟨vs,H2,I2,r2,q2⟩=>hm pins s2 σ H2 x vs v us Q I2 r1 r2 q2
end
end L2
namespace L2
open PySem PySem.Spec PyProof.Rows
def MtM (X:Cx) (id:String) (r:V→List V→Hp→VK→Prop):Prop:=
 ∀ (pins:List (Addr×Obj)) (s:Shared) (σ:St) (H:Hp) (x:V) (xs:List V) (v:Value) (us:List Value) (Q:VK),Inv X pins σ H s→RelV x v→Vals xs us→r x xs H Q→
  wpAny (model X.prog X.w) X.A (call (.builtin id) (v::us)) (EP X pins σ Q) X.xe s
theorem Vals.one:∀ {x:V} {us:List Value},Vals [x] us→∃ u,us=[u]∧RelV x u
 | _,_,.cons r .nil=>⟨_,rfl,r⟩
section
variable {X:Cx} {pins:List (Addr×Obj)} {σ:St} {H:Hp} {s:Shared} {l b:Addr} {xs ys zs:List V}
theorem Inv.Fg {its its':List Value} {n:Nat} {f:Array Value→Array Value} {t':Nat} (I:Inv X pins σ H s) (hH:H l=some (.lst xs))
  (e:s.heap.get? l=some { cls:=.type "list",data:=.seq its.toArray n }) (hf:f its.toArray=its'.toArray) (hv:Vals ys its') (hz:ys.length≤sizeLine) :
  Inv X pins σ (upd H l (.lst ys)) { s with heap:=s.heap.update l (Obj.mapSeq f),toks:=t' }:=by
 have q:=PySem.IsL.update e f
 rw[hf] at q
 refine I.write (x:=l) (e:=l) (by rw[hH];exact trivial) (.inl rfl) (fun b' u hb hu=>(Heap.get?_update_other s.heap (Obj.mapSeq f) (Ne.symm hb)).trans hu) ⟨_,q⟩ ?_
 exact⟨hz,its',_,hv,q⟩
theorem Inv.GR {its:List Value} {t':Nat} (I:Inv X pins σ H s) (hv:Vals ys its) (hz:ys.length≤sizeLine) :
  Inv X pins σ (upd H s.heap.objs.size (.lst ys)) { s with heap:=s.heap.push { cls:=.type "list",data:=.seq its.toArray },toks:=t' }:=
 I.laid (fun _ _ q=>Heap.get?_push_of_some _ q) (Nat.le_refl _) ⟨hz,its,0,hv,Heap.get?_push_size _ rfl⟩
theorem Inv.fresh (I:Inv X pins σ H s):H s.heap.objs.size=none:=I.hok.fresh (Nat.le_refl _)
theorem Inv.x5 (I:Inv X pins σ H s) (hH:H l=some (.lst xs)):xs.length≤sizeLine∧∃ (its:List Value) (n:Nat),Vals xs its∧xs.length=its.length∧s.heap.get? l=some { cls:=.type "list",data:=.seq its.toArray n }:=by
 obtain⟨z,its,n,r,e⟩:=I.hok l _ hH
 exact⟨z,its,n,r,r.length,e⟩
theorem xR {n:Nat} (h:n≤sizeLine):Builtin.List.listTooLong n=false:=by
 unfold Builtin.List.listTooLong
 exact decide_eq_false (by omega)
end
section
variable {X:Cx}
def qb:V→List V→Hp→VK→Prop:=fun x vs H Q=>∃ l xs y,x=.ref l∧vs=[y]∧H l=some (.lst xs)∧xs.length < sizeLine∧Q .non (upd H l (.lst (xs++[y])))
theorem vO:MtM X "list.append" qb:=by
 intro pins s σ H x vs v us Q I rx rv h
 obtain⟨l,xs,y,rfl,rfl,hH,hz,q⟩:=h
 cases rx
 obtain⟨u,rfl,ru⟩:=rv.one
 obtain⟨z,its,n,r,hl,e⟩:=I.x5 hH
 refine call_meets F.slot_list_append ⟨_,e,rfl⟩ F.entry_list_append (F.args_list_append_2 _ _) (PySem.list_append l its.toArray n u (by rw[List.size_toArray];omega)) ⟨e,?_⟩
 refine⟨.non,_,I.Fg (its':=its++[u]) hH e (by simp) (r.append (.cons ru .nil)) ?_,rfl,q⟩
 rw[List.length_append,List.length_singleton]
 omega
def qa:V→List V→Hp→VK→Prop:=fun x vs H Q=>∃ l b xs zs,x=.ref l∧vs=[.ref b]∧H l=some (.lst xs)∧H b=some (.lst zs)∧xs.length + zs.length≤sizeLine∧Q .non (upd H l (.lst (xs++zs)))
theorem vN:MtM X "list.extend" qa:=by
 intro pins s σ H x vs v us Q I rx rv h
 obtain⟨l,b,xs,zs,rfl,rfl,hH,hB,hz,q⟩:=h
 cases rx
 obtain⟨u,rfl,ru⟩:=rv.one
 cases ru
 obtain⟨z,its,n,r,hl,e⟩:=I.x5 hH
 obtain⟨z2,its2,n2,r2,hl2,e2⟩:=I.x5 hB
 have hsz:its.toArray.size + its2.toArray.size≤sizeLine:=by rw[List.size_toArray,List.size_toArray];omega
 have hlong:¬ (!its.toArray.isEmpty && Builtin.List.listTooLong (its.toArray.size + its2.toArray.size))=true:=by
  rw[xR hsz,Bool.and_false]
  exact Bool.false_ne_true
 refine call_meets F.slot_list_extend ⟨_,e,rfl⟩ F.entry_list_extend (F.args_list_extend_2 _ _)
  (AutoSeq1.list_extend_list_list_0 l its.toArray n b its2.toArray n2 hlong (by rw[List.size_toArray];omega) (by omega)) ⟨e,e2,?_⟩
 refine⟨.non,_,I.Fg (its':=its++its2) hH e (by simp) (r.append r2) ?_,rfl,q⟩
 rw[List.length_append]
 omega
def EK:R2:=fun x y H Q=>∃ l b xs zs,x=.ref l∧y=.ref b∧H l=some (.lst xs)∧H b=some (.lst zs)∧xs.length + zs.length≤sizeLine∧∀ p,H p=none→Q (.ref p) (upd H p (.lst (xs++zs)))
theorem Dr:OpR X (binaryOp .Add) EK:=by
 intro pins s σ H x y v u Q I rx ry h
 obtain⟨l,b,xs,zs,rfl,rfl,hH,hB,hz,q⟩:=h
 cases rx
 cases ry
 obtain⟨z,its,n,r,hl,e⟩:=I.x5 hH
 obtain⟨z2,its2,n2,r2,hl2,e2⟩:=I.x5 hB
 refine PySem.P.add_list e e2 ?_ (by rw[List.size_toArray,List.size_toArray];omega)
 have ea:its.toArray++its2.toArray=(its++its2).toArray:=by simp
 rw[ea]
 exact⟨.ref _,_,I.GR (t':=s.toks) (r.append r2) (by rw[List.length_append];omega),rfl,q _ I.fresh⟩
end
section
variable {prog:Program} {w:World} {A:Around} {E:Value→Shared→Prop} {s:Shared}
end
section
variable {X:Cx}
end
end L2
namespace L2
open PySem PySem.Spec PyProof.Rows
section
variable {κ:Type} [DecidableEq κ]
end
section
variable {P:Program} {w:World} {H:Hp} {h:Heap} {a:Addr}
theorem ED {u:HO} (ok:HOk P w H h) (e:Rd H a u):bX P w H h a u:=e.ok ok
theorem FF {kvs:List (Key×V)} (ok:HOk P w H h) (e:Rd H a (.dK kvs)):kvs.length≤sizeLine∧(a == sysModules)=false∧∃ vs,KV kvs vs∧h.DictOf (mJ P w) a vs:=
 show bX P w H h a (.dK kvs) from ED ok e
theorem FG {kvs:List (Key×V)} (ok:HOk P w H h) (e:H a=some (.dK kvs)):kvs.length≤sizeLine∧(a == sysModules)=false∧∃ vs,KV kvs vs∧h.DictOf (mJ P w) a vs:=FF ok (.inl e)
end
section
variable {X:Cx} {pins:List (Addr×Obj)} {σ:St} {H:Hp} {s:Shared} {a:Addr} {y v:V} {u r:Value} {o:Option V} {A:Around} {E:Value→Shared→Prop}
theorem Inv.big (I:Inv X pins σ H s):sysModules < s.heap.objs.size:=by
 have h:mainGlobals < s.heap.objs.size:=(I.mod.glob.keeps I.bk).lt
 exact Nat.lt_trans (by decide) h
end
section
variable {X:Cx} {pins:List (Addr×Obj)} {σ:St} {H:Hp} {s:Shared} {a:Addr} {kvs:List (Key×V)} {k:Key} {u:Value} {A:Around} {E:Value→Shared→Prop}
end
def Eb (i:Expr):Prop:=∀ ov iv,subscripted i false ov iv=operate [ov,iv] (getItem ov iv)
theorem zu {prog:Program} {w:World} {A:Around} {E:Value→Shared→Prop} {s:Shared} {env:Env} {value slice:Expr} {pos:Pos} {T id:String} {Q:Value→Shared→Prop}
  (hl:typeLookup (.type T) "__getitem__"=pure (some (.builtin id))) (hs:Eb slice)
  (h:wpAny (model prog w) A (eval value env) (fun o s₁=>wpAny (model prog w) A (eval slice env) (fun i s₂=>s₂.TypeIs o T∧wpAny (model prog w) A (getItem o i) Q E s₂) E s₁) E s) :
  wpAny (model prog w) A (eval (.Subscript value slice pos) env) Q E s:=by
 refine Subscript_ (wpAny_mono h (fun o s₁ h₁=>wpAny_mono h₁ (fun i s₂ h₂=>?_) fun _ _ x=>x) fun _ _ x=>x)
 obtain⟨hT,h₂⟩:=h₂
 unfold subscriptTail
 refine wpAny_bind ?_
 rw[getitemInPython_of_ne hT.not_modules]
 refine wpAny_bind (wpAny_specialOf hT hl ?_)
 have fin:wpAny (model prog w) A (subscripted slice false o i) (fun r s₃=>wpAny (model prog w) A (letTemporaryGo value o r >>= fun _=>pure r) Q E s₃) E s₂:=by
  rw[hs o i]
  exact wpAny_operating (wpAny_mono h₂ (fun r s₃ h₃=>wpAny_bind (wpAny_letTemporaryGo (wpAny_pure h₃))) fun _ _ x=>x)
 first
  | exact wpAny_pure (wpAny_bind fin)
  | exact wpAny_bind (wpAny_pure (wpAny_bind fin))
  | exact wpAny_bind fin
section
variable {X:Cx} {o i e value:Expr} {pos pos' tpos:Pos} {td ty tv:TE}
end
theorem yS {P:Program} {w:World} {H:Hp} (h:Heap) (hb:sysModules < h.objs.size):bX P w H (h.push { cls:=.type "dict",data:=.dict #[] }) h.objs.size (.dK []):=
 ⟨Nat.zero_le _,beq_eq_false_iff_ne.mpr (Ne.symm (Nat.ne_of_lt hb)),[],.nil,Heap.DictOf.new h⟩
def wM:TE:=fun _ H Q=>∀ p,H p=none→Q (.ref p) (upd H p (.dK []))
section
variable {X:Cx} {pos:Pos}
theorem xw:PE X (.Dict [] [] pos) wM:=fun pins s σ H Q I h=>
 wpAny_Dict_empty ⟨.ref s.heap.objs.size,_,I.laid (a:=s.heap.objs.size) (o:=.dK []) (t':=s.toks) (fun _ _ q=>Heap.get?_push_of_some _ q) (Nat.le_refl _) (yS s.heap I.big),rfl,h _ (I.hok.fresh (Nat.le_refl _))⟩
end
section
variable {X:Cx} {pins:List (Addr×Obj)} {σ:St} {H:Hp} {s:Shared} {a:Addr} {y d:V} {u r:Value} {o:Option V} {A:Around} {E:Value→Shared→Prop}
end
section
variable {X:Cx} {o e f:Expr} {apos cpos:Pos} {td ty tx:TE}
end
section
variable {X:Cx} {pins:List (Addr×Obj)} {σ:St} {H:Hp} {s:Shared} {a:Addr} {kvs:List (Key×V)} {A:Around} {E:Value→Shared→Prop}
end
section
variable {X:Cx} {pins:List (Addr×Obj)} {σ:St} {H:Hp} {s:Shared} {a:Addr} {y:V} {u:Value} {A:Around} {E:Value→Shared→Prop}
end
end L2
namespace Att
open PySem PySem.W PySem.Calls PyProof.Rows
theorem mz {P:Params} {h:Heap}:∀ (ns:List Int) (vs:List Value),WellAll P h vs (ns.map WData.int)→IntsAre vs ns:=by
 intro ns
 induction ns with
 | nil=>
  intro vs w
  rw[List.map_nil] at w
  cases w
  exact .nil
 | cons n ns ih=>
  intro vs w
  rw[List.map_cons] at w
  cases w with
  | cons a b=>
   cases a
   exact .cons _ _ (ih _ b)
theorem vx {l:OpenLaw} {n:Nat} (hn:l.most=some n) {P:Params} {h:Heap} {args:List WData} {vals:List Value}
  (hpre:l.row.toRowW.claim.pre args=true) (hwl:WellAll P h vals args) :
  ∃ a vs ns,vals=[Value.ref a]∧args=[WData.list (ns.map WData.int)]∧h.get? a=some { cls:=.type "list",data:=.seq vs.toArray }∧IntsAre vs ns∧ns.length≤n:=by
 have hsh:WShape.hasAll [] args [.list .int]=true:=(pre_splitW hpre).1
 have hc:l.pre.holds [] { args:=args }=true:=(pre_splitW hpre).2
 obtain⟨d,r,rfl,h1,h2⟩:=hasAllW_cons hsh
 obtain rfl:=hasAllW_nil h2
 obtain⟨xs,rfl,h3⟩:=hasW_list h1
 obtain⟨ns,rfl⟩:=items_int h3
 have hlen:ns.length≤n:=by
  unfold OpenLaw.pre at hc
  have h4:(WTm.not (.lt (.lit (.int (n:Int))) (.len (.arg 0)))).holds [] { args:=[.list (ns.map .int)] }=true:=by
   have h4:=(holds_andW hc).1
   rw[hn] at h4
   exact h4
  have h5:=condW_of h4 (w_not (w_lt w_lit (w_len_list (w_arg rfl))))
  rw[List.length_map] at h5
  refine Nat.le_of_not_lt fun q=>?_
  have q':(n:Int) < ((ns.length:Nat):Int):=by omega
  first
   | (rw[decide_eq_true q'] at h5;exact absurd h5 (by decide))
   | (simp at h5;omega)
 cases hwl with
 | cons w1 w2=>
  cases w2
  cases w1 with
  | list ho hall=>exact⟨_,_,ns,rfl,rfl,ho,mz ns _ hall,hlen⟩
theorem vD (l:OpenLaw) (args:List WData):l.row.toRowW.claim.post args (.bool true) args=true:=
 postW_of (r:=l.row.toRowW) (X:=(true == true))
  (show WShape.has [] (.bool true) .bool=true by first | rfl | decide | simp [WShape.has,WShape.arms,WShape.armsAll])
  (show (WTm.eq .res (.lit (.bool true))).value [] { args:=args,res:=some (.bool true),after:=args }=some (.bool (true == true)) from w_eq_bool (w_res rfl) w_lit) rfl
theorem sA {l:OpenLaw} {n:Nat} {q:Program} {loose:List Str} {XP:(Str→Option Value)→Heap→Prop} {YP:World→Heap→Prop} {d:DefRec}
  (hn:l.most=some n) (hdf:d.params.defaults=[])
  (call:∀ (w:World) (s₀ s₁:Shared) (mg mb:Str→Option Value) (fa:Addr) (o:Obj) (pm cd doc:Value) (a:Addr) (vs:List Value) (ns:List Int),
   Ground q loose [] XP w s₀ mg mb s₁.heap→YP w s₁.heap→
   s₁.heap.get? fa=some o→o.data=.func (docDef d.name d.params d.body d.scope pm cd doc)→s₁.heap.CodeRec cd d.name→mg d.name=some (.ref fa)→
   s₁.heap.get? a=some { cls:=.type "list",data:=.seq vs.toArray }→IntsAre vs ns→ns.length≤n→s₁.gens=#[]→
   codeAny (model l.prog w) callerA (.call (.ref fa) ⟨[.ref a],[]⟩) (fun r s'=>r=.ok (.ret (.bool true))∧OldK s₁.heap s'.heap∧s'.os=s₁.os∧AllBare s'.gens) s₁) :
  WalkO q loose XP YP l.row.toRowW d [] (fun f vs=>PySem.call f vs):=by
 intro w s₀ s₁ mg mb G Y fa o pm cd doc dV kV ho hd hcd hD hmg hg args vals as hpre hlay hrd hwl hlo
 obtain rfl:dV=.none:=Dflts.none hD hdf
 obtain rfl:kV=.none:=Dflts.noKw hD
 obtain⟨a,vs,ns,rfl,rfl,hobj,hints,hlen⟩:=vx hn hpre hwl
 refine enter_call (codeAny_mono (call w s₀ s₁ mg mb fa o pm cd doc a vs ns G Y ho (fd_plain hd) hcd hmg hobj hints hlen hg) fun r s' hq=>?_)
 obtain⟨rfl,h2,h3,h4⟩:=hq
 exact⟨.inl ⟨.bool true,.bool true,[],rfl,fun _=>rfl,.bool true,vD l _,fun _=>⟨List.Pairwise.nil,fun _ hm=>(nomatch hm)⟩⟩,h2,h3,h4⟩
section
variable {prog:Program} {w:World} {A:Around} {E:Value→Shared→Prop} {s:Shared} {K:Frag}
end
end Att
namespace L2
open PySem PySem.Spec PyProof.Rows
theorem lq:∀ {vs:List Value} {ns:List Int},IntsAre vs ns→Vals (ns.map V.int) vs
 | _,_,.nil=>.nil
 | _,_,.cons n t h=>.cons ⟨t,rfl⟩ (lq h)
def Ea (H:Hp):Prop:=∀ b,H b=none∨(∃ o xs,H b=some (.frz o (.lst xs)))∨∃ ps,H b=some (.tbl ps)
end L2
namespace L2
open PySem PySem.Spec PyProof.Rows
def inClass (s:Stmt) (j:Nat):Stmt:=match s with
 | .ClassDef _ _ _ body _ _ _ _ _ _ _=>body.getD j (.Pass ⟨0,0,0,0⟩)
 | _=>.Pass ⟨0,0,0,0⟩
def jK (s:Stmt):Arguments:=match s with
 | .FunctionDef _ a _ _ _ _ _ _ _ _=>a
 | _=>{ posonlyargs:=[],args:=[],vararg:=none,kwonlyargs:=[],kw_defaults:=[],kwarg:=none,defaults:=[] }
def eX (s:Stmt):List Stmt:=match s with
 | .FunctionDef _ _ b _ _ _ _ _ _ _=>b
 | _=>[]
def ag (s:Stmt):Scope:=match s with
 | .FunctionDef _ _ _ _ _ _ sc _ _ _=>sc
 | _=>{ kind:=.function,names:=[],isGenerator:=false,isCoroutine:=false }
abbrev CX0:CXT:=fun _ _ _ _ _ _=>False
abbrev E0:XK:=fun _ _ _=>False
theorem kC {X:Cx}:Passes CX0 X E0:=fun _ _ _ _ _ _ _ h=>h.elim
structure Fun (K:PySem.W.Frag) (x qual:Str) (st:Stmt) (f:Addr) (fd:FuncData):Prop where
 ex:∃ (oc:Value) (od:Option Addr) (kV doc pm:Value) (an:Option Addr) (cdv ct:Value) (osl:Array (Option Value)),
  fd=PySem.W.fnOf x qual (jK st) (eX st) (ag st) .none kV doc pm an cdv ct∧K.lookup f=some ⟨oc,od,.func fd,osl⟩∧PySem.W.codeIn K cdv qual=true
 kp:PySem.W.keepIn K (.ref f)=true
section
variable {P:Program} {w:World} {K:PySem.W.Frag} {mg:Str→Option Value} {base:Heap}
theorem Fun.ok {x qual:Str} {st:Stmt} {f:Addr} {fd:FuncData} {N ps:List Str} {k:Nat} {sp:Sp} (F:Fun K x qual st f fd) (S:av N ps (ag st)) (len:∀ vs H Q E,sp vs H Q E→vs.length=ps.length)
  (hbody:∀ (cdv:Value) (A:Around) (outer:List Env) (s:Shared) (H:Hp) (vs:List V) (Q:VK) (E:XK),bO k (A.deeper (envOfC qual (ag st) s.heap.objs.size f cdv))→sp vs H Q E→
   ∃ t,PSs (jO CX0 P w K mg base N qual (ag st) f cdv A outer s H E).nox (eX st) t∧t { nx:=fun _ H'=>Q .non H',rt:=Q } (start N vs) H):aM P w K mg base CX0 (k + 1) f fd ps sp:=by
 obtain⟨oc,od,kV,doc,pm,an,cdv,ct,osl,rfl,lk,hcd⟩:=F.ex
 refine BS lk hcd S len fun A outer s H vs Q E hr hsp=>?_
 obtain⟨t,h,q⟩:=hbody cdv A outer s H vs Q E hr hsp
 exact⟨t,h.nox,q⟩
theorem Fun.binds {x qual:Str} {st:Stmt} {f:Addr} {fd:FuncData} {ps:List Str} (F:Fun K x qual st f fd)
  (h:∀ (kV doc pm:Value) (an:Option Addr) (cdv ct:Value) (us:List Value),us.length=ps.length→bindArgs (PySem.W.fnOf x qual (jK st) (eX st) (ag st) .none kV doc pm an cdv ct) ⟨us,[]⟩=pure (ps.zip us)):Binds K fd ps []:=by
 obtain⟨oc,od,kV,doc,pm,an,cdv,ct,osl,rfl,lk,hcd⟩:=F.ex
 exact .all (h kV doc pm an cdv ct)
theorem yw {x qual:Str} {st:Stmt} {f:Addr} {oc:Value} {od an:Option Addr} {osl:Array (Option Value)} {kV doc pm cdv ct:Value} (l:K.lookup f=some ⟨oc,od,.func (PySem.W.fnOf x qual (jK st) (eX st) (ag st) .none kV doc pm an cdv ct),osl⟩)
  (c:PySem.W.codeIn K cdv qual=true) (k:PySem.W.keepIn K (.ref f)=true):Fun K x qual st f (PySem.W.fnOf x qual (jK st) (eX st) (ag st) .none kV doc pm an cdv ct):=⟨⟨oc,od,kV,doc,pm,an,cdv,ct,osl,rfl,l,c⟩,k⟩
end
section
variable {X:Cx}
end
theorem vV {A B:Prop} (h:B):if false=true then A else B:=by
 rw[if_neg Bool.false_ne_true]
 exact h
theorem vU {A B:Prop} (h:A):if true=true then A else B:=by
 rw[if_pos rfl]
 exact h
def aG (H H':Hp):Prop:=∀ b o,H b=some o→H' b=some o
theorem aG.refl (H:Hp):aG H H:=fun _ _ h=>h
theorem aG.trans {H H1 H2:Hp} (a:aG H H1) (b:aG H1 H2):aG H H2:=fun c o h=>b c o (a c o h)
theorem aG.free {H H':Hp} (e:aG H H') {l:Addr} (h:H' l=Option.none):H l=Option.none:=by
 cases q:H l with
 | none=>rfl
 | some o=>
  rw[e l o q] at h
  cases h
theorem aG.seq {K:PySem.W.Frag} {H H':Hp} {a:Addr} {xs:List V} (e:aG H H') (h:SqL K H a xs):SqL K H' a xs:=by
 rcases h with (h | ⟨o,h⟩) | h
 ·exact .inl (.inl (e _ _ h))
 ·exact .inl (.inr ⟨o,e _ _ h⟩)
 ·exact .inr h
section
variable {κ:Type} [DecidableEq κ]
end
end L2
namespace L2
open PySem PySem.Spec PyProof.Rows
def takes (cells:List (Str×Addr)):List (Str×NameKind)→List (Str×Addr)→List (Str×Addr)
 | [],acc=>acc
 | (n,k)::r,acc=>takes cells r (if k=NameKind.free then (n,(cells.lookup n).getD 0)::acc else acc)
theorem oo {sc:Scope} {env:Env} (h:∀ y∈sc.names,y.2=.free→∃ c,env.cells.lookup y.1=some c):closureFor sc env=pure (takes env.cells sc.names []):=by
 have go:∀ (l:List (Str×NameKind)) (acc:List (Str×Addr)),(∀ y∈l,y.2=.free→∃ c,env.cells.lookup y.1=some c)→
   (forIn l acc (fun (x:Str×NameKind) (cs:List (Str×Addr))=>match x with
    | (name,kind)=>if (kind == NameKind.free)=true then do let c ← cellOf env name;pure (ForInStep.yield ((name,c)::cs)) else pure (ForInStep.yield cs)):Sem (List (Str×Addr)))=pure (takes env.cells l acc):=by
  intro l
  induction l with
  | nil=>intro acc _;rfl
  | cons x l ih=>
   intro acc hl
   obtain⟨n,k⟩:=x
   rw[List.forIn_cons]
   by_cases hk:k=NameKind.free
   ·subst hk
    obtain⟨c,hc⟩:=hl (n,.free) List.mem_cons_self rfl
    have hc':env.cells.lookup n=some c:=hc
    have e1:cellOf env n=pure c:=by unfold cellOf;rw[hc']
    have e2:takes env.cells ((n,NameKind.free)::l) acc=takes env.cells l ((n,c)::acc):=by
     show takes env.cells l (if NameKind.free=NameKind.free then (n,(env.cells.lookup n).getD 0)::acc else acc)=_
     rw[if_pos rfl,hc']
     rfl
    rw[e2,← ih ((n,c)::acc) fun y hy=>hl y (List.mem_cons_of_mem _ hy)]
    show ((if (NameKind.free == NameKind.free)=true then (do let c ← cellOf env n;pure (ForInStep.yield ((n,c)::acc))) else pure (ForInStep.yield acc)) >>= _)=_
    rw[if_pos (by decide),e1,pure_bind,pure_bind]
   ·have e2:takes env.cells ((n,k)::l) acc=takes env.cells l acc:=by
     show takes env.cells l (if k=NameKind.free then _ else acc)=_
     rw[if_neg hk]
    have hb:(k == NameKind.free)=false:=by simpa using hk
    rw[e2,← ih acc fun y hy=>hl y (List.mem_cons_of_mem _ hy)]
    show ((if (k == NameKind.free)=true then _ else pure (ForInStep.yield acc)) >>= _)=_
    rw[hb,if_neg Bool.false_ne_true,pure_bind]
 have:=go sc.names [] h
 unfold closureFor
 first
  | exact(congrArg (fun z=>z >>= fun cs=>pure cs) this).trans (pure_bind _ _)
  | exact this
  | simpa using this
theorem oA {cells:List (Str×Addr)} {n:Str} {c:Addr}:∀ (names:List (Str×NameKind)) (acc:List (Str×Addr)),(takes cells names acc).lookup n=some c→
  acc.lookup n=some c∨((n,NameKind.free)∈names∧c=(cells.lookup n).getD 0)
 | [],_,h=>.inl h
 | (m,k)::r,acc,h=>by
  rcases oA r _ h with q | ⟨q1,q2⟩
  ·by_cases hk:k=NameKind.free
   ·rw[if_pos hk] at q
    subst hk
    by_cases e:n=m
    ·subst e
     rw[List.lookup_cons,beq_self_eq_true] at q
     exact .inr ⟨List.mem_cons_self,(Option.some.inj q).symm⟩
    ·have:(n == m)=false:=by simpa using e
     rw[List.lookup_cons,this] at q
     exact .inl q
   ·rw[if_neg hk] at q
    exact .inl q
  ·exact .inr ⟨List.mem_cons_of_mem _ q1,q2⟩
theorem oB {cells:List (Str×Addr)} {n:Str}:∀ (names:List (Str×NameKind)) (acc:List (Str×Addr)),(acc.lookup n).isSome=true→((takes cells names acc).lookup n).isSome=true
 | [],_,h=>h
 | (m,k)::r,acc,h=>by
  refine oB r _ ?_
  by_cases hk:k=NameKind.free
  ·rw[if_pos hk]
   cases e:n == m with
   | true=>rw[List.lookup_cons,e];rfl
   | false=>rw[List.lookup_cons,e];exact h
  ·rw[if_neg hk];exact h
theorem lu {cells:List (Str×Addr)} {n:Str}:∀ (names:List (Str×NameKind)) (acc:List (Str×Addr)),(n,NameKind.free)∈names→((takes cells names acc).lookup n).isSome=true
 | [],_,h=>by simp at h
 | (m,k)::r,acc,h=>by
  rcases List.mem_cons.mp h with e | h
  ·cases e
   refine oB r _ ?_
   rw[if_pos rfl,List.lookup_cons,beq_self_eq_true]
   rfl
  ·exact lu r _ h
structure Blk (N:List Str) (osc sc:Scope) (Nc:List Str) (fr:List (Option Nat)):Prop where
 kind:sc.kind=.function
 own:∀ y∈sc.names,y.2=.cell→sc.names.lookup y.1=some .cell
 free:∀ y∈sc.names,y.2=.free→osc.names.lookup y.1=some .cell∨osc.names.lookup y.1=some .free
 locs:∀ y∈sc.names,y.2=.local→sc.names.lookup y.1=some .local
 nd:Nc.Nodup
 len:Nc.length=fr.length
 whence:∀ p∈Nc.zip fr,(p.2.all fun j=>decide (N[j]?=some p.1) && decide (sc.names.lookup p.1=some .free))=true
abbrev bcl (cells:List (Str×Addr)) (sc:Scope) (C:Addr):List (Str×Addr):=cellsFrom (C + 1) sc.names (takes cells sc.names [])
theorem u7 {x:Str} {c:Addr}:∀ (names:List (Str×NameKind)) (n:Nat) (acc:List (Str×Addr)),(cellsFrom n names acc).lookup x=some c→acc.lookup x=some c∨(n≤c∧(x,NameKind.cell)∈names)
 | [],_,_,h=>.inl h
 | (y,k)::r,n,acc,h=>by
  unfold cellsFrom at h
  split at h
  ·rename_i hk
   have ek:k=NameKind.cell:=by simpa using hk
   subst ek
   rcases u7 r _ _ h with q | ⟨q1,q2⟩
   ·rw[List.lookup_cons] at q
    cases hx:x == y with
    | true=>
     rw[hx] at q
     cases q
     rw[beq_iff_eq.mp hx]
     exact .inr ⟨Nat.le_refl _,List.mem_cons_self⟩
    | false=>rw[hx] at q;exact .inl q
   ·exact .inr ⟨Nat.le_of_succ_le q1,List.mem_cons_of_mem _ q2⟩
  ·rcases u7 r _ _ h with q | ⟨q1,q2⟩
   ·exact .inl q
   ·exact .inr ⟨q1,List.mem_cons_of_mem _ q2⟩
theorem tR {x:Str} {c:Addr}:∀ (names:List (Str×NameKind)) (n:Nat) (acc:List (Str×Addr)),(x,NameKind.cell)∈names→(cellsFrom n names acc).lookup x=some c→n≤c
 | [],_,_,m,_=>nomatch m
 | (y,k)::r,n,acc,m,h=>by
  unfold cellsFrom at h
  by_cases hr:(x,NameKind.cell)∈r
  ·split at h
   ·exact Nat.le_of_succ_le (tR r _ _ hr h)
   ·exact tR r _ _ hr h
  ·have e:(x,NameKind.cell)=(y,k):=(List.mem_cons.mp m).resolve_right hr
   cases e
   rw[if_pos (by rfl)] at h
   rcases u7 r _ _ h with q | ⟨q1,_⟩
   ·rw[List.lookup_cons,beq_self_eq_true] at q
    cases q
    exact Nat.le_refl _
   ·exact Nat.le_of_succ_le q1
theorem tQ {x:Str}:∀ (names:List (Str×NameKind)) (n:Nat) (acc:List (Str×Addr)),(x,NameKind.cell)∉names→(cellsFrom n names acc).lookup x=acc.lookup x
 | [],_,_,_=>rfl
 | (y,k)::r,n,acc,m=>by
  unfold cellsFrom
  have hr:(x,NameKind.cell)∉r:=fun z=>m (List.mem_cons_of_mem _ z)
  split
  ·rename_i hk
   have ek:k=NameKind.cell:=by simpa using hk
   subst ek
   rw[tQ r _ _ hr,List.lookup_cons]
   have:(x == y)=false:=by
    cases hx:x == y with
    | false=>rfl
    | true=>exact absurd (by rw[beq_iff_eq.mp hx];exact List.mem_cons_self) m
   rw[this]
  ·exact tQ r _ _ hr
theorem tS:∀ (names:List (Str×NameKind)) (n:Nat) (acc:List (Str×Addr)),(∀ x y c,acc.lookup x=some c→acc.lookup y=some c→x=y)→(∀ x c,acc.lookup x=some c→c < n)→
  ∀ x y c,(cellsFrom n names acc).lookup x=some c→(cellsFrom n names acc).lookup y=some c→x=y
 | [],_,_,h,_=>h
 | (z,k)::r,n,acc,h,lt=>by
  unfold cellsFrom
  split
  ·refine tS r (n + 1) ((z,n)::acc) (fun x y c h1 h2=>?_) fun x c h1=>?_
   ·rw[List.lookup_cons] at h1 h2
    cases hx:x == z with
    | true=>
     cases hy:y == z with
     | true=>rw[beq_iff_eq.mp hx,beq_iff_eq.mp hy]
     | false=>
      rw[hx] at h1;rw[hy] at h2
      cases h1
      exact absurd (lt y n h2) (Nat.lt_irrefl _)
    | false=>
     cases hy:y == z with
     | true=>
      rw[hx] at h1;rw[hy] at h2
      cases h2
      exact absurd (lt x n h1) (Nat.lt_irrefl _)
     | false=>rw[hx] at h1;rw[hy] at h2;exact h x y c h1 h2
   ·rw[List.lookup_cons] at h1
    cases hx:x == z with
    | true=>rw[hx] at h1;cases h1;exact Nat.lt_succ_self _
    | false=>rw[hx] at h1;exact Nat.lt_succ_of_lt (lt x c h1)
  ·exact tS r n acc h lt
theorem oW {M:Model} {A:Around} {E:Value→Shared→Prop} {s:Shared} {sc:Scope} {g:Addr} {cl:List (Str×Addr)} {qual:Str} {oe:Env} {Q:Env→Shared→Prop}
  (hQ:∀ h':Heap,h'.Ns s.heap.objs.size (fun _=>none)→(∀ b o,s.heap.get? b=some o→h'.get? b=some o)→(∀ n c,(cellsFrom (s.heap.objs.size + 1) sc.names cl).lookup n=some c→cl.lookup n=some c∨h'.IsCell c none)→
   Q { scope:=sc,locals:=s.heap.objs.size,globals:=g,cells:=cellsFrom (s.heap.objs.size + 1) sc.names cl,qual:=qual,func:=none,code:=oe.code,frame:=oe.frame,builtins:=oe.builtins } { s with heap:=h' }) :
  wpAny M A (newFunctionEnv sc g cl [] qual none .none (some oe)) Q E s:=by
 simp only[newFunctionEnv,Option.isSome_some,if_true]
 refine wpAny_bind (wpAny_alloc ?_)
 refine wpAny_bind (wpAny_layCells _ (fun name kind cells=>by cases hkc:kind == NameKind.cell <;> simp [hkc]) _ _ _ _ ?_)
 have go:∀ (names:List (Str×NameKind)) (h:Heap) (acc:List (Str×Addr)) (P:Str→Addr→Prop),(∀ n c,acc.lookup n=some c→P n c∨h.IsCell c none)→∀ n c,(cellsFrom h.objs.size names acc).lookup n=some c→P n c∨(pushCells h names).IsCell c none:=by
  intro names
  induction names with
  | nil=>intro h acc P x;exact x
  | cons p r ih=>
   intro h acc P x
   obtain⟨y,k⟩:=p
   unfold cellsFrom pushCells
   split
   ·have:=ih (h.push { cls:=.type "cell",data:=.cell none }) ((y,h.objs.size)::acc) P fun n c e=>by
     rw[List.lookup_cons] at e
     cases hx:n == y with
     | true=>rw[hx] at e;cases e;exact .inr ⟨_,Heap.get?_push_size _ rfl,rfl⟩
     | false=>
      rw[hx] at e
      rcases x n c e with q | q
      ·exact .inl q
      ·exact .inr (q.keeps fun b o e=>Heap.get?_push_of_some _ e)
    rwa [Heap.size_push] at this
   ·exact ih h acc P x
 have ok:=go sc.names (s.heap.push { cls:=.type "dict",data:=.dict #[] }) cl (fun n c=>cl.lookup n=some c) fun n c e=>.inl e
 rw[Heap.size_push] at ok
 rw[show ({ s with heap:=s.heap.push { cls:=.type "dict",data:=.dict #[] } }:Shared).heap.objs.size=s.heap.objs.size + 1 from Heap.size_push ..]
 refine wpAny_bind ?_
 rw[List.forIn_nil]
 exact wpAny_pure (wpAny_pure (hQ _ ((Heap.Ns.new s.heap (.type "dict")).keeps (pushCells_keeps _ _)) (fun b o e=>pushCells_keeps _ _ b o (Heap.get?_push_of_some _ e)) ok))
abbrev a_ (X:Cx) (sc:Scope) (Nc:List Str) (s₀:Shared) (H₀:Hp) (C:Addr) (ex:List Addr) (pn:List (Addr×Obj)):Cx where
 prog:=X.prog
 w:=X.w
 K:=X.K
 mg:=X.mg
 base:=X.base
 A:=X.A
 N:=Nc
 s₀:=s₀
 H₀:=H₀
 env:=compEnvC sc (bcl X.env.cells sc C) C X.env
 outer:=X.stack
 stack:=X.stack
 ex:=ex
 fn:=fun x=>sc.names.lookup x == some .cell
 calm:=X.calm
 pn:=pn
 xe:=fun _ _=>False
def jw (fr:List (Option Nat)) (σ:St):St:=fr.map fun o=>o.bind fun j=>(σ[j]?).join
def Ca (J:It) (g:TG) (te:TE) (σ0:St) (H1:Hp) (Q:VK):Prop:=
 ∃ W:Nat→Nat→List V→St→Hp→Prop,(∃ m,W 0 m [] σ0 H1)∧∀ i m ys σc H,W i m ys σc H→ys.length < sizeLine∧
  ((J.stop i H∧∀ l,H l=none→Q (.ref l) (upd H l (.lst ys)))∨
   (J.go i H∧∀ x H',J.yld i H x H'→g x σc H' fun σ2 H2=>∃ N:VK,(∀ y H3,N y H3→∃ m',m' < m∧W (i + 1) m' (ys++[y]) σ2 H3)∧te σ2 H2 N))
def qZ (fr:List (Option Nat)) (wi:TI) (g:TG) (te:TE):TE:=fun σ H Q=>wi σ H fun J H1=>Ca J g te (jw fr σ) H1 Q
theorem i8 {sc:Scope} {env:Env} {x:Str} {k:NameKind} (h:(relabel sc env).names.lookup x=some k):sc.names.lookup x=some k∨(k=.cell∧sc.names.lookup x=some .free):=by
 have go:∀ l:List (Str×NameKind),(l.map fun (n,k)=>if (k == NameKind.free && env.scope.kind == .function && env.kindOf n == some .cell) then (n,NameKind.cell) else (n,k)).lookup x=some k→l.lookup x=some k∨(k=.cell∧l.lookup x=some .free):=by
  intro l
  induction l with
  | nil=>intro h;simp at h
  | cons p r ih=>
   intro h
   obtain⟨n,k'⟩:=p
   rw[List.map_cons] at h
   by_cases hc:(k' == NameKind.free && env.scope.kind == .function && env.kindOf n == some .cell)=true
   ·have h2:List.lookup x ((n,NameKind.cell)::r.map fun (n,k)=>if (k == NameKind.free && env.scope.kind == .function && env.kindOf n == some .cell) then (n,NameKind.cell) else (n,k))=some k:=by
     have h3:=h
     simp only[hc,if_true] at h3
     exact h3
    have hk:k'=.free:=by
     simp only[Bool.and_eq_true] at hc
     simpa using hc.1.1
    subst hk
    cases hx:x == n with
    | true=>
     rw[List.lookup_cons,hx] at h2
     rw[List.lookup_cons,hx]
     cases h2
     exact .inr ⟨rfl,rfl⟩
    | false=>
     rw[List.lookup_cons,hx] at h2
     rw[List.lookup_cons,hx]
     exact ih h2
   ·have hc':(k' == NameKind.free && env.scope.kind == .function && env.kindOf n == some .cell)=false:=by simpa using hc
    have h2:List.lookup x ((n,k')::r.map fun (n,k)=>if (k == NameKind.free && env.scope.kind == .function && env.kindOf n == some .cell) then (n,NameKind.cell) else (n,k))=some k:=by
     have h3:=h
     simp only[hc',Bool.false_eq_true,if_false] at h3
     exact h3
    cases hx:x == n with
    | true=>
     rw[List.lookup_cons,hx] at h2
     rw[List.lookup_cons,hx]
     exact .inl h2
    | false=>
     rw[List.lookup_cons,hx] at h2
     rw[List.lookup_cons,hx]
     exact ih h2
 exact go _ h
theorem p9 {sc:Scope} {env:Env} {x:Str} (h:sc.names.lookup x=some .free):(relabel sc env).names.lookup x=some .cell∨(relabel sc env).names.lookup x=some .free:=by
 have go:∀ l:List (Str×NameKind),l.lookup x=some .free→(l.map fun (n,k)=>if (k == NameKind.free && env.scope.kind == .function && env.kindOf n == some .cell) then (n,NameKind.cell) else (n,k)).lookup x=some .cell∨(l.map fun (n,k)=>if (k == NameKind.free && env.scope.kind == .function && env.kindOf n == some .cell) then (n,NameKind.cell) else (n,k)).lookup x=some .free:=by
  intro l
  induction l with
  | nil=>intro h;simp at h
  | cons p r ih=>
   intro h
   obtain⟨n,k'⟩:=p
   rw[List.map_cons]
   by_cases hc:(k' == NameKind.free && env.scope.kind == .function && env.kindOf n == some .cell)=true
   ·simp only[hc,if_true]
    cases hx:x == n with
    | true=>left;simp [List.lookup_cons,hx]
    | false=>
     rw[List.lookup_cons,hx] at h
     simp only[List.lookup_cons,hx]
     exact ih h
   ·have hc':(k' == NameKind.free && env.scope.kind == .function && env.kindOf n == some .cell)=false:=by simpa using hc
    simp only[hc',Bool.false_eq_true,if_false]
    cases hx:x == n with
    | true=>
     rw[List.lookup_cons,hx] at h
     right
     simp only[List.lookup_cons,hx]
     exact h
    | false=>
     rw[List.lookup_cons,hx] at h
     simp only[List.lookup_cons,hx]
     exact ih h
 exact go _ h
section
variable {X:Cx} {pins:List (Addr×Obj)} {σ:St}
theorem fe {sc:Scope} {Nc:List Str} {fr:List (Option Nat)} (B:Blk X.N X.env.scope sc Nc fr) (ok:X.Ok) {n:Str} {c:Addr} (h:(takes X.env.cells sc.names []).lookup n=some c):X.env.cells.lookup n=some c:=by
 rcases oA _ _ h with q | ⟨q1,q2⟩
 ·simp at q
 ·obtain⟨c',hc'⟩:=ok.has n (B.free _ q1 rfl)
  rw[hc'] at q2
  rw[hc',q2]
  rfl
theorem pv {sc:Scope} {Nc:List Str} {fr:List (Option Nat)} {C:Addr} (B:Blk X.N X.env.scope sc Nc fr) (ok:X.Ok) {n:Str} {c:Addr} (h:(bcl X.env.cells sc C).lookup n=some c):X.env.cells.lookup n=some c∨C < c:=by
 rcases u7 _ _ _ h with q | ⟨q,_⟩
 ·exact .inl (fe B ok q)
 ·exact .inr q
theorem dz {n:Str} {k:NameKind}:∀ {l:List (Str×NameKind)},l.lookup n=some k→(n,k)∈l:=fun h=>PySem.mem_of_lookup h
theorem zb {sc:Scope} {Nc:List Str} {fr:List (Option Nat)} (B:Blk X.N X.env.scope sc Nc fr) {s₀:Shared} {H₀:Hp} {C:Addr} {ex:List Addr} {pn:List (Addr×Obj)} (I:Inv X pins σ H₀ s₀) (hC:s₀.heap.objs.size≤C)
  (hex:∀ b∈ex,b < s₀.heap.objs.size∧b∉X.fs∧b≠X.env.locals∧(∀ x c,X.env.cells.lookup x=some c→c≠b)∧∀ o,X.base.get? b≠some o):(a_ X sc Nc s₀ H₀ C ex pn).Ok where
 mod:=I.ok.mod
 kind:=B.kind
 glob:=I.ok.glob
 blt:=I.ok.blt
 above:=hC
 inj:=tS _ _ _ (fun x y c h1 h2=>I.ok.inj x y c (fe B I.ok h1) (fe B I.ok h2)) fun x c h=>by
  obtain⟨v,o,e,_⟩:=I.cell x c (fe B I.ok h)
  exact Nat.lt_succ_of_lt (Nat.lt_of_lt_of_le (Heap.lt_size e) hC)
 has:=fun x hx=>by
  have hf:sc.names.lookup x=some .cell∨sc.names.lookup x=some .free:=by
   rcases hx with hx | hx
   ·rcases i8 hx with q | ⟨_,q⟩
    ·exact .inl q
    ·exact .inr q
   ·rcases i8 hx with q | ⟨_,q⟩
    ·exact .inr q
    ·exact .inr q
  refine Option.isSome_iff_exists.mp (PySem.W.cellsFrom_some _ _ _ ?_)
  rcases hf with q | q
  ·exact .inl q
  ·exact .inr (lu _ _ (dz q))
 cab:=fun x c h e=>by
  have h':sc.names.lookup x=some .cell:=by simpa using h
  exact Nat.le_trans hC (Nat.le_of_succ_le (tR _ _ _ (dz h') e))
 hd:=I.ok.hd
 frames:=I.ok.frames
 stk:=.inl rfl
 exf:=fun b hb=>⟨fun e=>by have:=(hex b hb).1;rw[e] at this;exact absurd (Nat.lt_of_lt_of_le this hC) (Nat.lt_irrefl _),fun x c h=>by
  rcases pv B I.ok h with q | q
  ·exact(hex b hb).2.2.2.1 x c q
  ·exact fun z=>absurd (Nat.lt_trans (Nat.lt_of_lt_of_le (hex b hb).1 hC) q) (by rw[z];exact Nat.lt_irrefl _)⟩
 bs:=fun b o e=>I.bs b o e
 bsz:=Nat.le_trans I.ok.bsz I.sz
 noex:=fun b o e hb=>(hex b hb).2.2.2.2 o e
 exfs:=fun b hb hf=>by
  rcases List.mem_cons.mp (I.pT b hf) with e | e
  ·exact(hex b hb).2.2.1 e
  ·exact(hex b hb).2.1 e
 iR:=I.stack
 frf:=fun b hb=>I.pU b hb
 tb:=I.tb
end
end L2
namespace L2
open PySem PySem.Spec PyProof.Rows
section
variable {X:Cx}
abbrev bu (us:List Value) (n:Nat):Obj:={ cls:=.type "list",data:=.seq us.toArray n }
theorem tF {α:Type} {Nc:List Str} {fr:List α} {i:Nat} {x:Str} {o:α} (h1:Nc[i]?=some x) (h2:fr[i]?=some o):(x,o)∈Nc.zip fr:=by
 have h3:(Nc.zip fr)[i]?=some (x,o):=by
  rw[List.getElem?_zip_eq_some]
  exact⟨h1,h2⟩
 exact List.mem_of_getElem? h3
theorem vg {pins:List (Addr×Obj)} {σ:St} {sc:Scope} {Nc:List Str} {fr:List (Option Nat)} (B:Blk X.N X.env.scope sc Nc fr) {s₀ s₄:Shared} {H₀:Hp} {C D:Addr} {o:Obj} {ex:List Addr} {mC:Str→Option Value}
  (ok:(a_ X sc Nc s₀ H₀ C ex (X.pn++pins)).Ok) (I:Inv X pins σ H₀ s₀) (hC:s₀.heap.objs.size≤C) (ho:s₄.os=s₀.os) (hg:s₄.gens=s₀.gens) (hk:∀ b u,s₀.heap.get? b=some u→s₄.heap.get? b=some u) (hn:s₄.heap.Ns C mC)
  (hw:∀ x c,(bcl X.env.cells sc C).lookup x=some c→(takes X.env.cells sc.names []).lookup x=some c∨s₄.heap.IsCell c none) (hD:s₀.heap.get? D=some o) (hDH:H₀ D=none) (hDL:D≠X.env.locals) (hDf:D∉X.fs) (hDc:∀ v,o.data≠.cell v) :
  Inv (a_ X sc Nc s₀ H₀ C ex (X.pn++pins)) [(D,o)] (jw fr σ) H₀ s₄:=by
 have stk:∀ b,b≠X.env.locals→b∉X.fs→b∉frs X.stack:=fun b h1 h2 h3=>by
  rcases List.mem_cons.mp (I.pT b h3) with e | e
  ·exact h1 e
  ·exact h2 e
 have ltC:∀ {b:Addr} {u:Obj},s₀.heap.get? b=some u→b≠C:=fun e z=>absurd (Nat.lt_of_lt_of_le (Heap.lt_size e) (by rw[z];exact hC)) (Nat.lt_irrefl _)
 refine⟨ok,ho,by rw[hg];exact I.bare,Un.kept hk,⟨mC,hn,fun i x v h1 h2 h3=>?_⟩,fun x c h=>?_,I.hok.fresh hC,fun x c h=>?_,fun p hp=>?_,I.hok.kept hk,?_⟩
 ·have h2':(fr.map fun o=>o.bind fun j=>(σ[j]?).join)[i]?=some (some v):=h2
  rw[List.getElem?_map] at h2'
  cases ef:fr[i]? with
  | none=>rw[ef] at h2';cases h2'
  | some oj=>
   rw[ef] at h2'
   have h4:(oj.bind fun j=>(σ[j]?).join)=some v:=Option.some.inj h2'
   cases oj with
   | none=>cases h4
   | some j=>
    have hz:=B.whence _ (tF h1 ef)
    have hz':(decide (X.N[j]?=some x) && decide (sc.names.lookup x=some .free))=true:=hz
    rw[Bool.and_eq_true] at hz'
    have e1:X.N[j]?=some x:=of_decide_eq_true hz'.1
    have e2:sc.names.lookup x=some .free:=of_decide_eq_true hz'.2
    have h5:σ[j]?=some (some v):=by
     have h6:(σ[j]?).join=some v:=h4
     cases e3:σ[j]? with
     | none=>rw[e3] at h6;cases h6
     | some y=>rw[e3] at h6;exact congrArg some h6
    have hkd:=B.free _ (dz e2) rfl
    obtain⟨m,hm,hl⟩:=I.loc
    have vis:Vis X.env.scope x:=by rcases hkd with k | k;exact .inr (.inl k);exact .inr (.inr k)
    obtain⟨u,r,l⟩:=hl j x v e1 h5 vis
    refine⟨u,r,.inr ⟨p9 e2,?_⟩⟩
    rcases l with ⟨k,_⟩ | ⟨_,c,hc,hcell⟩
    ·have k':X.env.scope.names.lookup x=some .local:=k
     rcases hkd with q | q
     ·rw[q] at k';cases k'
     ·rw[q] at k';cases k'
    ·obtain⟨c',hc'⟩:=Option.isSome_iff_exists.mp (lu (cells:=X.env.cells) sc.names [] (dz e2))
     have hc2:=fe B I.ok hc'
     rw[hc] at hc2
     cases hc2
     obtain⟨oc,ho1,ho2⟩:=hcell
     exact⟨c,(tQ _ _ _ fun z=>by have:=B.own _ z rfl;rw[e2] at this;cases this).trans hc',oc,hk _ _ ho1,ho2⟩
 ·rcases hw x c h with q | q
  ·obtain⟨v,oc,h1,h2⟩:=I.cell x c (fe B I.ok q)
   exact⟨v,oc,hk _ _ h1,h2⟩
  ·exact⟨_,q⟩
 ·rcases pv B I.ok h with q | q
  ·exact I.freeC x c q
  ·exact I.hok.fresh (Nat.le_trans hC (Nat.le_of_lt q))
 ·rcases List.mem_append.mp hp with hp | hp
  ·obtain⟨e1,e2,e3,e4,e5⟩:=I.pin p hp
   exact⟨hk _ _ e1,e2,ltC e1,stk _ e3 e4,e5⟩
  ·have e:p=(D,o):=by simpa using hp
   subst e
   exact⟨hk _ _ hD,hDH,ltC hD,stk _ hDL hDf,hDc⟩
 ·show (fr.map _).length=Nc.length
  rw[List.length_map,B.len]
abbrev Runs (prog:Program) (w:World) (A:Around) {α:Type} (c:Sem α) (t:Shared) (Q:α→Shared→Prop):Prop:=wpAny (model prog w) A c Q (fun _ _=>False) t
theorem Runs.go {prog:Program} {w:World} {A:Around} {α:Type} {c:Sem α} {t:Shared} {Q Q':α→Shared→Prop} {E:Value→Shared→Prop} (h:Runs prog w A c t Q) (f:∀ a u,Q a u→Q' a u):wpAny (model prog w) A c Q' E t:=wpAny_mono h f fun _ _ z=>z.elim
theorem qH {prog:Program} {w:World} {A:Around} {R:Result→Shared→Prop} {s:Shared} {elt tg iter:Expr} {sc:Scope} {pos:Pos} {it acc:Value} {env:Env} (J:Nat→Shared→Prop)
  (one:∀ k t,J k t→Runs prog w A (pyNext it) t fun r t1=>match r with
   | none=>R (.ok .next) t1
   | some v=>Runs prog w A (letOwnedTupleGo tg it v) t1 fun _ t2=>Runs prog w A (assign tg env v) t2 fun _ t3=>Runs prog w A (eval elt env) t3 fun x t4=>
     Runs prog w A (call (.builtin "list.append") [acc,x]) t4 fun _ t5=>∃ j,j < k∧J j t5)
  (k:Nat) (h:J k s):codeAny (model prog w) A (.compLoop (.ListComp elt [⟨tg,iter,[],0⟩] sc pos) 0 it acc env) R s:=
 PySem.W.kcp_loop J (fun k t hJ=>(one k t hJ).go fun r t1 q=>match r,q with
  | none,q=>q
  | some _,q=>Runs.go q fun _ _ q=>Runs.go q fun _ _ q=>Runs.go q fun _ _ q=>Runs.go q fun _ _ q=>q) k h
theorem nV {elt iter tg:Expr} {sc:Scope} {pos:Pos} {Nc:List Str} {fr:List (Option Nat)} {g:TG} {te:TE} (B:Blk X.N X.env.scope sc Nc fr) (hc:X.calm=true)
  (hg:∀ s₀ H₀ C ex pn,PG (a_ X sc Nc s₀ H₀ C ex pn) tg g) (he:∀ s₀ H₀ C ex pn,PE (a_ X sc Nc s₀ H₀ C ex pn) elt te)
  {pins:List (Addr×Obj)} {σ:St} {s2:Shared} {H2:Hp} {it:Addr} {fp:List Addr} {tn:Nat→Heap→Prop} {J:It} (I2:Inv X pins σ H2 s2) (T:Turn X.prog X.w X.K tg J fp it tn) (st2:tn 0 s2.heap) (f2:∀ b∈fp,e9 X pins H2 b)
  {Q:VK} (cw:Ca J g te (jw fr σ) H2 Q) {RR:Value→Addr→Result→Shared→Prop} {E:Value→Shared→Prop}
  (hRR:∀ D C s' H',Inv X pins σ H' s'→(∃ m,s'.heap.Ns C m)→e9 X pins H' C→Q (.ref D) H'→RR (.ref D) C (.ok .next) s') :
  wpAny (model X.prog X.w) X.A (newList []) (fun acc s₃=>wpAny (model X.prog X.w) X.A (newFunctionEnv sc X.env.globals (takes X.env.cells sc.names []) [] X.env.qual none .none (some X.env)) (fun cenv s₄=>
   codeAny (model X.prog X.w) X.A (.compStart (.ListComp elt [⟨tg,iter,[],0⟩] sc pos) 0 (.ref it) acc { cenv with scope:=relabel sc X.env }) (RR acc cenv.locals) s₄) E s₃) E s2:=by
 obtain⟨W,⟨m0,w0⟩,turn⟩:=cw
 refine wpAny_newObj_type (oW fun h₁ hns₁ old₁ cl₁=>?_)
 dsimp only at hns₁ old₁ cl₁ ⊢
 generalize hH2:s2.heap.push { cls:=.type "list",dict:=none,data:=.seq ([]:List Value).toArray }=hp at hns₁ old₁ cl₁ ⊢
 have hCs:hp.objs.size=s2.heap.objs.size + 1:=by rw[← hH2,Heap.size_push]
 generalize hCe:hp.objs.size=C at hns₁ cl₁ ⊢
 generalize hDe:s2.heap.objs.size=D at hCs ⊢
 have hDC:D≠C:=by rw[← hCe,hCs];exact Nat.ne_of_lt (Nat.lt_succ_self _)
 have up:∀ b o,s2.heap.get? b=some o→hp.get? b=some o:=fun b o e=>by rw[← hH2];exact Heap.get?_push_of_some _ e
 have hDp:hp.get? D=some (bu [] 0):=by rw[← hH2,← hDe];exact Heap.get?_push_size _ rfl
 have I3:Inv X pins σ H2 { s2 with heap:=hp }:=I2.kept (t':=s2.toks) up
 have hD0:H2 D=none:=I2.hok.fresh (by rw[hDe];exact Nat.le_refl _)
 have fD:e9 X pins H2 D:=I2.rW (by rw[hDe];exact Nat.le_refl _) hD0
 have fpo:∀ b∈fp,∃ o,s2.heap.get? b=some o∧∀ v,o.data≠.cell v:=T.obj 0 _ st2
 have fplt:∀ b∈fp,b < D:=fun b hb=>by obtain⟨o,e,_⟩:=fpo b hb;rw[← hDe];exact Heap.lt_size e
 have hDfp:D∉fp:=fun hb=>Nat.lt_irrefl _ (fplt D hb)
 have hCfp:C∉fp:=fun hb=>by have:=fplt C hb;rw[← hCe,hCs] at this;exact absurd (Nat.lt_of_succ_lt this) (Nat.lt_irrefl _)
 have nobase:∀ b,(b∈X.ex∨X.s₀.heap.objs.size≤b)→∀ o,X.base.get? b≠some o:=fun b h o e=>by
  rcases h with h | h
  ·exact I2.ok.noex b o e h
  ·exact absurd (Nat.lt_of_lt_of_le (Heap.lt_size e) (Nat.le_trans I2.ok.bsz h)) (Nat.lt_irrefl _)
 have hex:∀ b∈D::fp,b < hp.objs.size∧b∉X.fs∧b≠X.env.locals∧(∀ x c,X.env.cells.lookup x=some c→c≠b)∧∀ o,X.base.get? b≠some o:=fun b hb=>by
  have fb:e9 X pins H2 b:=by
   rcases List.mem_cons.mp hb with e | hb
   ·rw[e];exact fD
   ·exact f2 b hb
  refine⟨?_,fb.2.2.1,fb.2.1,fb.2.2.2.2.1,nobase b fb.2.2.2.1⟩
  rcases List.mem_cons.mp hb with e | hb
  ·rw[e,hCs];exact Nat.lt_succ_self _
  ·rw[hCs];exact Nat.lt_succ_of_lt (fplt b hb)
 have hCle:hp.objs.size≤C:=by rw[hCe];exact Nat.le_refl _
 have ok:(a_ X sc Nc { s2 with heap:=hp } H2 C (D::fp) (X.pn++pins)).Ok:=zb B I3 hCle hex
 have old:∀ b u,hp.get? b=some u→h₁.get? b=some u:=old₁
 have J0:Inv (a_ X sc Nc { s2 with heap:=hp } H2 C (D::fp) (X.pn++pins)) [(D,bu [] 0)] (jw fr σ) H2 { s2 with heap:=h₁ }:=
  vg B ok I3 hCle rfl rfl old hns₁ cl₁ hDp hD0 fD.2.1 fD.2.2.1 (fun v z=>by cases z)
 have fpY:∀ {H':Hp} {u:Obj},(∀ b∈fp,H' b=none)→∀ b∈fp,e9 (a_ X sc Nc { s2 with heap:=hp } H2 C (D::fp) (X.pn++pins)) [(D,u)] H' b:=fun {H' u} hn b hb=>
  ⟨hn b hb,fun e=>hCfp (by have e':b=C:=e;rw[← e'];exact hb),ok.exfs b (List.mem_cons_of_mem _ hb),.inl (List.mem_cons_of_mem _ hb),(ok.exf b (List.mem_cons_of_mem _ hb)).2,fun p hp'=>by
   rcases List.mem_append.mp hp' with q | q
   ·exact(f2 b hb).2.2.2.2.2 p q
   ·have e:p=(D,u):=by simpa using q
    rw[e]
    exact fun z=>hDfp (by have z':D=b:=z;rw[z'];exact hb)⟩
 have loop:codeAny (model X.prog X.w) X.A (.compLoop (.ListComp elt [⟨tg,iter,[],0⟩] sc pos) 0 (.ref it) (.ref D) (compEnvC sc (bcl X.env.cells sc C) C X.env)) (RR (.ref D) C) { s2 with heap:=h₁ }:=by
  refine qH (fun n s'=>∃ (i:Nat) (ys:List V) (us:List Value) (σc:St) (H':Hp),Inv (a_ X sc Nc { s2 with heap:=hp } H2 C (D::fp) (X.pn++pins)) [(D,bu us us.length)] σc H' s'∧Vals ys us∧tn i s'.heap∧(∀ b∈fp,H' b=none)∧W i n ys σc H')
   ?_ m0 ⟨0,[],[],_,H2,J0,.nil,T.keep _ _ _ st2 (fun b _ o e=>old b o (up b o e)),fun b hb=>(f2 b hb).1,w0⟩
  rintro n s3 ⟨i,ys,us,σ3,H3,I3',rv,st3,fr3,w3⟩
  obtain⟨hsz,hcase⟩:=turn i n ys σ3 H3 w3
  rcases hcase with ⟨stop,qn⟩ | ⟨go,step⟩
  ·refine thn (T.done (a_ X sc Nc { s2 with heap:=hp } H2 C (D::fp) (X.pn++pins)) rfl rfl rfl hc i _ s3 σ3 H3 _ I3' (fpY fr3) st3 stop) fun r s4 ⟨hr,I4⟩=>?_
   subst hr
   obtain⟨pD,pH,_,_,_⟩:=I4.pin (D,bu us us.length) (List.mem_append_right _ List.mem_cons_self)
   obtain⟨mC',hnC,_⟩:=I4.loc
   have un:Un (frs X.stack) fp H2 (upd H3 D (.lst ys)) s2.heap s4.heap:=by
    have u0:Un (frs X.stack) (D::fp) H2 H3 hp s4.heap:=I4.base
    have neD:∀ {b:Addr} {o:Obj},s2.heap.get? b=some o→b≠D:=fun e=>by rw[← hDe];exact Nat.ne_of_lt (Heap.lt_size e)
    have nx:∀ {b:Addr} {o:Obj},s2.heap.get? b=some o→b∉fp→b∉D::fp:=fun e h1 h2=>by
     rcases List.mem_cons.mp h2 with z | z
     ·exact neD e z
     ·exact h1 z
    have neT:∀ {b:Addr} {o:HO},H2 b=some o→b≠D:=fun e z=>by rw[z,hD0] at e;cases e
    exact⟨fun b o e n hb hx=>u0.keep b o (up b o e) n hb (nx e hx),fun b o e n hb hx=>u0.slot b o (up b o e) n hb (nx e hx),fun b o e n hx=>by rw[ah (neD e)];exact u0.free b o (up b o e) n (nx e hx),
     fun b o e hx=>u0.there b o (up b o e) (nx e hx),fun b xs e=>by rw[ah (neT e)];exact u0.tups b xs e,fun b o xs e=>by rw[ah (neT e)];exact u0.frzs b o xs e,fun b ps e=>by rw[ah (neT e)];exact u0.tbls b ps e⟩
   have hok:HOk X.prog X.w (upd H3 D (.lst ys)) s4.heap:=fun b u e=>by
    by_cases hb:b=D
    ·subst hb
     rw[au] at e
     cases e
     exact⟨Nat.le_of_lt hsz,us,us.length,rv,pD⟩
    ·rw[ah hb] at e
     refine(I4.hok b u e).j8 (fun c v _ q=>q) (fun c q=>?_) fun c xs q=>?_
     ·rw[ah (fun z=>by rw[z] at q;rw[show H3 D=none from pH] at q;cases q)];exact q
     ·rw[ah (fun z=>by rw[z] at q;rw[show H3 D=none from pH] at q;cases q)];exact q
   have I5:Inv X pins σ (upd H3 D (.lst ys)) s4:=I2.vb I4.os un hok I4.bare fun b hb=>⟨(f2 b hb).2.2.2.1,(f2 b hb).2.1,(f2 b hb).2.2.2.2.1,(f2 b hb).2.2.2.2.2⟩
   refine hRR D C s4 _ I5 ⟨mC',hnC⟩ ?_ (qn D pH)
   have hC2:s2.heap.objs.size≤C:=by rw[hDe,← hCe,hCs];exact Nat.le_succ _
   refine I2.rW hC2 ?_
   rw[ah (Ne.symm hDC)]
   exact I4.free
  ·refine thn (T.item (a_ X sc Nc { s2 with heap:=hp } H2 C (D::fp) (X.pn++pins)) rfl rfl rfl hc i _ s3 σ3 H3 _ I3' (fpY fr3) st3 go) fun r s4 ⟨u,hr,h4⟩=>?_
   subst hr
   refine thn h4 fun _ s5 ⟨x,H5,I5,r5,y5,st5,fr5⟩=>?_
   have I5':=I5.pinned (fpY fr5) (T.obj _ _ st5)
   refine thn (hg _ _ _ _ _ _ s5 σ3 H5 x u _ I5' r5 (step x H5 y5)) fun _ s6 ⟨σ6,H6,I6,N,hN,q6⟩=>?_
   refine thn (he _ _ _ _ _ _ s6 σ6 H6 _ I6 q6) fun y s7 ⟨yv,H7,I7,r7,q7⟩=>?_
   obtain⟨pD,pH,pL,pF,pc⟩:=I7.pin (D,bu us us.length) (List.mem_append_right _ (List.mem_append_left _ List.mem_cons_self))
   have hlen:us.length=ys.length:=rv.length.symm
   refine append_at (hsz:=by rw[List.size_toArray,hlen];exact Nat.le_of_lt hsz) pD fun h8 sb8 hD8=>?_
   obtain⟨m',hm,w8⟩:=hN yv H7 q7
   have st7:tn (i + 1) s7.heap:=T.keep _ _ _ st5 fun b hb o e=>(I7.pin (b,o) (List.mem_append_right _ (List.mem_append_right _ (dR hb e)))).1
   have fr7:∀ b∈fp,H7 b=none:=fun b hb=>by
    obtain⟨o,e,d⟩:=T.obj _ _ st5 b hb
    exact(I7.pin (b,o) (List.mem_append_right _ (List.mem_append_right _ (dR hb e)))).2.1
   have I7n:Inv (a_ X sc Nc { s2 with heap:=hp } H2 C (D::fp) (X.pn++pins)) [] σ6 H7 s7:=I7.gp fun p z=>absurd z (by simp)
   have I8:Inv (a_ X sc Nc { s2 with heap:=hp } H2 C (D::fp) (X.pn++pins)) [] σ6 H7 { s7 with heap:=h8 }:=
    I7n.turned (t':=s7.toks) (it:=D) (fun b o hb e=>(sb8.2 b hb).trans e) pH pL (.inl List.mem_cons_self) (fun x c e=>(ok.exf D List.mem_cons_self).2 x c e) fun p hp'=>by
     have hp2:p∈X.pn++pins:=by simpa using hp'
     exact fD.2.2.2.2.2 p hp2
   have e8:h8.get? D=some (bu (us++[y]) (us++[y]).length):=by
    rw[hD8]
    simp
   refine⟨m',hm,i + 1,ys++[yv],us++[y],σ6,H7,I8.gp fun p z=>?_,rv.append (.cons r7 .nil),T.keep _ _ _ st7 fun b hb o e=>(sb8.2 b fun z=>hDfp (by rw[← z];exact hb)).trans e,fr7,w8⟩
   have e:p=(D,bu (us++[y]) (us++[y]).length):=by simpa using z
   subst e
   exact⟨e8,pH,pL,pF,fun v z=>by cases z⟩
 exact codeAny_compStart_list loop (wpAny_mono (T.self X.A 0 _ _ (fun _ _=>False) (T.keep _ _ _ st2 (fun b _ o e=>old b o (up b o e))) loop) (fun _ _ h=>h) fun _ _ h=>h.elim)
theorem qI {pins:List (Addr×Obj)} {σ:St} {H:Hp} {s:Shared} {sc:Scope} {Nc:List Str} {fr:List (Option Nat)} (B:Blk X.N X.env.scope sc Nc fr) (I:Inv X pins σ H s):closureFor sc X.env=pure (takes X.env.cells sc.names []):=
 oo fun y hy hf=>I.ok.has y.1 (B.free y hy hf)
theorem z6 {elt iter tg:Expr} {sc:Scope} {pos:Pos} {Nc:List Str} {fr:List (Option Nat)} {wi:TI} {g:TG} {te:TE} (hc:X.calm=true) (hi:PI X tg iter wi) (B:Blk X.N X.env.scope sc Nc fr)
  (hg:∀ s₀ H₀ C ex pn,PG (a_ X sc Nc s₀ H₀ C ex pn) tg g) (he:∀ s₀ H₀ C ex pn,PE (a_ X sc Nc s₀ H₀ C ex pn) elt te) (hs:∀ x,foldedSetIterable iter X.env x=pure x:=by intro _;rfl) :
  PE X (.ListComp elt [⟨tg,iter,[],0⟩] sc pos) (qZ fr wi g te):=by
 intro pins s σ H Q I h
 rw[eval_ListComp]
 refine wpAny_comprehension_free (use:=none) rfl hs (qI B I) B.kind B.locs (thn (hi pins s σ H _ I h) fun v s1 h1=>thn h1 fun itv s2 h2=>?_)
 obtain⟨it,fp,tn,J,H2,e,I2,T,st2,f2,cw⟩:=h2
 subst e
 refine nV (RR:=fun acc C=>compPost (model X.prog X.w) X.A X.xe none (EP X pins σ Q) acc C) B hc hg he I2 T st2 f2 cw fun D C s' H' I' hn fC q=>?_
 obtain⟨m,hn⟩:=hn
 exact⟨m,hn,fun h' sb=>⟨.ref D,H',I'.turned (t':=s'.toks) (fun b o hb e=>(sb.2 b hb).trans e) fC.1 fC.2.1 fC.2.2.2.1 fC.2.2.2.2.1 fC.2.2.2.2.2,rfl,q⟩⟩
theorem sX {i:Nat} {x:Str} {px spos:Pos} {elt iter tg:Expr} {sc:Scope} {pos:Pos} {Nc:List Str} {fr:List (Option Nat)} {wi:TI} {g:TG} {te:TE} (hN:X.N.Nodup) (hi':X.N[i]?=some x) (hx:X.env.scope.names.lookup x=some .local)
  (hc:X.calm=true) (hi:PI X tg iter wi) (B:Blk X.N X.env.scope sc Nc fr)
  (hg:∀ s₀ H₀ C ex pn,PG (a_ X sc Nc s₀ H₀ C ex pn) tg g) (he:∀ s₀ H₀ C ex pn,PE (a_ X sc Nc s₀ H₀ C ex pn) elt te)
  (hsw:swapsWith (.ListComp elt [⟨tg,iter,[],0⟩] sc pos) (some (.Name x px)) spos.line X.env=pure true:=by rfl) (hs:∀ x,foldedSetIterable iter X.env x=pure x:=by intro _;rfl) :
  PS X (.Assign [.Name x px] (.ListComp elt [⟨tg,iter,[],0⟩] sc pos) spos) (pR (qZ fr wi g te) (lU i)):=by
 intro pins s σ H D I h
 rw[exec_Assign_Name_used _ _ _ _ hsw]
 refine wpAny_bind (wpAny_standAt (wpAny_bind ?_))
 show wpAny _ X.A (do let _ ← comprehension (.ListComp elt [⟨tg,iter,[],0⟩] sc pos) sc X.env _ (newList []) false (eval iter X.env) (some (assign (.Name x px) X.env))) _ _ s
 refine wpAny_bind (wpAny_mono (wpAny_comprehension_free (use:=some (assign (.Name x px) X.env)) (Q:=fun _ s'=>SP X pins D .next s') rfl hs (qI B I) B.kind B.locs
  (thn (hi pins s σ H _ I h) fun v s1 h1=>thn h1 fun itv s2 h2=>?_)) (fun _ s' hq=>wpAny_pure (wpAny_pure hq)) fun _ _ e=>e)
 obtain⟨it,fp,tn,J,H2,e,I2,T,st2,f2,cw⟩:=h2
 subst e
 refine nV (RR:=fun acc C=>compPost (model X.prog X.w) X.A X.xe (some (assign (.Name x px) X.env)) (fun _ s'=>SP X pins D .next s') acc C) B hc hg he I2 T st2 f2 cw fun L C s' H' I' hn fC q=>?_
 obtain⟨m,hn⟩:=hn
 show wpAny _ X.A (assign (.Name x px) X.env (.ref L)) _ _ _
 refine wpAny_assign_Name (oE I' hN hi' (.inl hx) (v:=.ref L) rfl (fun s3 I3 hs3=>?_) (.inr hx))
 obtain⟨a,sb,ha⟩:=hs3
 have hCa:C≠a:=by
  rcases ha with e | e
  ·rw[e];exact fC.2.1
  ·exact fun z=>fC.2.2.2.2.1 _ _ e (by rw[z])
 exact⟨m,hn.sameBut sb hCa,fun h' sb'=>⟨_,H',I3.turned (t':=s3.toks) (fun b o hb e=>(sb'.2 b hb).trans e) fC.1 fC.2.1 fC.2.2.2.1 fC.2.2.2.2.1 fC.2.2.2.2.2,q⟩⟩
end
end L2
namespace L2
open PySem PySem.Spec PyProof.Rows
section
variable {X:Cx}
structure iy (K:PySem.W.Frag):Prop where
 bb:PySem.W.kitOne K (.type "bool") (.type "bool")=some true
 bi:PySem.W.kitOne K (.type "bool") (.type "int")=some true
 bl:PySem.W.kitOne K (.type "bool") (.type "list")=some false
 bt:PySem.W.kitOne K (.type "bool") (.type "tuple")=some false
 ib:PySem.W.kitOne K (.type "int") (.type "bool")=some false
 ii:PySem.W.kitOne K (.type "int") (.type "int")=some true
 il:PySem.W.kitOne K (.type "int") (.type "list")=some false
 it:PySem.W.kitOne K (.type "int") (.type "tuple")=some false
 nb:PySem.W.kitOne K (.type "NoneType") (.type "bool")=some false
 ni:PySem.W.kitOne K (.type "NoneType") (.type "int")=some false
 nl:PySem.W.kitOne K (.type "NoneType") (.type "list")=some false
 nt:PySem.W.kitOne K (.type "NoneType") (.type "tuple")=some false
 sb:PySem.W.kitOne K (.type "str") (.type "bool")=some false
 si:PySem.W.kitOne K (.type "str") (.type "int")=some false
 sl:PySem.W.kitOne K (.type "str") (.type "list")=some false
 st:PySem.W.kitOne K (.type "str") (.type "tuple")=some false
 lb:PySem.W.kitOne K (.type "list") (.type "bool")=some false
 li:PySem.W.kitOne K (.type "list") (.type "int")=some false
 ll:PySem.W.kitOne K (.type "list") (.type "list")=some true
 lt:PySem.W.kitOne K (.type "list") (.type "tuple")=some false
 tb:PySem.W.kitOne K (.type "tuple") (.type "bool")=some false
 ti:PySem.W.kitOne K (.type "tuple") (.type "int")=some false
 tl:PySem.W.kitOne K (.type "tuple") (.type "list")=some false
 tt:PySem.W.kitOne K (.type "tuple") (.type "tuple")=some true
 db:PySem.W.kitOne K (.type "dict") (.type "bool")=some false
 di:PySem.W.kitOne K (.type "dict") (.type "int")=some false
 dl:PySem.W.kitOne K (.type "dict") (.type "list")=some false
 dt:PySem.W.kitOne K (.type "dict") (.type "tuple")=some false
inductive Kn (H:Hp):V→Prop where
 | non:Kn H .non
 | bl (b:Bool):Kn H (.bl b)
 | int (i:Int):Kn H (.int i)
 | str (x:Str):Kn H (.str x)
 | lst {a:Addr} {xs:List V} (e:H a=some (.lst xs)):Kn H (.ref a)
 | tup {a:Addr} {xs:List V} (e:H a=some (.tup xs)):Kn H (.ref a)
 | dK {a:Addr} {kvs:List (Key×V)} (e:H a=some (.dK kvs)):Kn H (.ref a)
def isB:V→Bool
 | .bl _=>true
 | _=>false
def isI:V→Bool
 | .bl _=>true
 | .int _=>true
 | _=>false
def isL (H:Hp):V→Bool
 | .ref a=>match H a with
  | some (.lst _)=>true
  | _=>false
 | _=>false
theorem uK {H:Hp} {a:Addr} {xs:List V} (h:H a=some (.lst xs)):isL H (.ref a)=true:=by simp only[isL,h]
theorem uJ {H:Hp} {a:Addr} {xs:List V} (h:H a=some (.tup xs)):isL H (.ref a)=false:=by simp only[isL,h]
theorem tK {H:Hp} {a:Addr} {xs:List (Key×V)} (h:H a=some (.dK xs)):isL H (.ref a)=false:=by simp only[isL,h]
theorem aK {pins:List (Addr×Obj)} {s:Shared} {σ:St} {H:Hp} {x:V} {c:String} {us:List Value} {t:Value} {b b':Bool} {Q:VK} (I:Inv X pins σ H s) (r:Vals [x,.ty c] us) (ty:kv X.K H x t) (e:PySem.W.kitOne X.K t (.type c)=some b) (eb:b'=b) (q:Q (.bl b') H) :
  wpAny (model X.prog X.w) X.A (call (.builtin "isinstance") us) (EP X pins σ Q) X.xe s:=by
 obtain⟨u,w',rfl,ru,rw'⟩:=vals2 r
 obtain rfl:w'=Value.type c:=rw'
 subst eb
 exact oZ I ru ty e fun tk=>⟨.bl b',H,I.tok _,rfl,q⟩
theorem y8 (F:iy X.K):dM X (.builtin "isinstance") (fun xs H Q=>∃ x,xs=[x,.ty "bool"]∧Kn H x∧Q (.bl (isB x)) H):=by
 intro pins s σ H xs us Q I r h
 obtain⟨x,rfl,k,q⟩:=h
 cases k with
 | non=>exact aK I r .non F.nb rfl q
 | bl b=>exact aK I r (.bl b) F.bb rfl q
 | int i=>exact aK I r (.int i) F.ib rfl q
 | str y=>exact aK I r (.str y) F.sb rfl q
 | lst e=>exact aK I r (.lst e) F.lb rfl q
 | tup e=>exact aK I r (.tup e) F.tb rfl q
 | dK e=>exact aK I r (.dK e) F.db rfl q
theorem y6 (F:iy X.K):dM X (.builtin "isinstance") (fun xs H Q=>∃ x,xs=[x,.ty "int"]∧Kn H x∧Q (.bl (isI x)) H):=by
 intro pins s σ H xs us Q I r h
 obtain⟨x,rfl,k,q⟩:=h
 cases k with
 | non=>exact aK I r .non F.ni rfl q
 | bl b=>exact aK I r (.bl b) F.bi rfl q
 | int i=>exact aK I r (.int i) F.ii rfl q
 | str y=>exact aK I r (.str y) F.si rfl q
 | lst e=>exact aK I r (.lst e) F.li rfl q
 | tup e=>exact aK I r (.tup e) F.ti rfl q
 | dK e=>exact aK I r (.dK e) F.di rfl q
theorem y4 (F:iy X.K):dM X (.builtin "isinstance") (fun xs H Q=>∃ x,xs=[x,.ty "list"]∧Kn H x∧Q (.bl (isL H x)) H):=by
 intro pins s σ H xs us Q I r h
 obtain⟨x,rfl,k,q⟩:=h
 cases k with
 | non=>exact aK I r .non F.nl rfl q
 | bl b=>exact aK I r (.bl b) F.bl rfl q
 | int i=>exact aK I r (.int i) F.il rfl q
 | str y=>exact aK I r (.str y) F.sl rfl q
 | lst e=>exact aK I r (.lst e) F.ll (uK e) q
 | tup e=>exact aK I r (.tup e) F.tl (uJ e) q
 | dK e=>exact aK I r (.dK e) F.dl (tK e) q
end
end L2
namespace L2
open PySem PySem.Spec PyProof.Rows
section
variable {X:Cx} {pins:List (Addr×Obj)} {σ:St} {H:Hp} {s:Shared}
theorem Inv.moved {ch:List Addr} {h':Heap} {t':Nat} (I:Inv X pins σ H s) (hch:∀ b∈ch,e9 X pins H b) (hk:∀ b o,b∉ch→s.heap.get? b=some o→h'.get? b=some o):Inv X pins σ H { s with heap:=h',toks:=t' }:=by
 have nt:∀ {b:Addr} {u:HO},H b=some u→b∉ch:=fun e hb=>by rw[(hch _ hb).1] at e;cases e
 refine I.step (g':=s.gens) (d':=s.drawn) (ch:=ch) (fun b hb=>⟨(hch b hb).2.2.2.1,(hch b hb).2.1,(hch b hb).2.2.2.2.1,(hch b hb).2.2.2.2.2⟩) (fun b o _ _ hc e _=>hk b o hc e) (fun b o _ _ hc e _=>⟨o.slots,hk b o hc e⟩) (fun _ _ _ _ n=>n)
  (fun b o hc e=>⟨o,hk b o hc e⟩) (fun _ _ e=>e) (fun _ _ _ e=>e) (fun b ps e=>⟨#[],by rw[e];simp⟩) (fun m hm=>?_) (fun b u e=>?_) I.bare
 ·obtain⟨o,es,ep,ho,r⟩:=hm
  exact⟨o,es,ep,hk _ o (fun hb=>(hch _ hb).2.1 rfl) ho,r⟩
 ·exact(I.hok b u e).j8 (fun c v hc q=>hk c v (by rcases hc with z | z <;> first | (rw[z];exact nt e) | exact nt z) q) (fun _ q=>q) fun _ _ q=>q
theorem Inv.uw {ch:List Addr} {T:Addr} {x y:V} {u v:Value} {h':Heap} {t':Nat} (I:Inv X pins σ H s) (hch:∀ b∈ch,e9 X pins H b) (hT:s.heap.objs.size≤T)
  (hk:∀ b o,b∉ch→s.heap.get? b=some o→h'.get? b=some o) (ht:IsTup h' T #[u,v]) (ru:RelV x u) (rv:RelV y v):Inv X pins σ (upd H T (.tup [x,y])) { s with heap:=h',toks:=t' }:=by
 have nt:∀ {b:Addr} {u:HO},H b=some u→b∉ch:=fun e hb=>by rw[(hch _ hb).1] at e;cases e
 have fT:H T=none:=I.hok.fresh hT
 have neT:∀ {b:Addr} {o:Obj},s.heap.get? b=some o→b≠T:=fun e=>Nat.ne_of_lt (Nat.lt_of_lt_of_le (Heap.lt_size e) hT)
 have neH:∀ {b:Addr} {u:HO},H b=some u→b≠T:=fun e z=>by rw[z,fT] at e;cases e
 refine I.step (g':=s.gens) (d':=s.drawn) (ch:=ch) (fun b hb=>⟨(hch b hb).2.2.2.1,(hch b hb).2.1,(hch b hb).2.2.2.2.1,(hch b hb).2.2.2.2.2⟩) (fun b o _ _ hc e _=>hk b o hc e) (fun b o _ _ hc e _=>⟨o.slots,hk b o hc e⟩) (fun b o _ e n=>by rw[ah (neT e)];exact n)
  (fun b o hc e=>⟨o,hk b o hc e⟩) (fun b xs e=>by rw[ah (neH e)];exact e) (fun b o xs e=>by rw[ah (neH e)];exact e) (fun b ps e=>⟨#[],by rw[ah (neH e),e];simp⟩) (fun m hm=>?_) (fun b o e=>?_) I.bare
 ·obtain⟨o,es,ep,ho,r⟩:=hm
  exact⟨o,es,ep,hk _ o (fun hb=>(hch _ hb).2.1 rfl) ho,r⟩
 ·by_cases hb:b=T
  ·subst hb
   rw[au] at e
   cases e
   exact⟨(by show 2≤sizeLine;decide),[u,v],.cons ru (.cons rv .nil),ht⟩
  ·rw[ah hb] at e
   exact(I.hok b o e).j8 (fun c w' hc q=>hk c w' (by rcases hc with z | z <;> first | (rw[z];exact nt e) | exact nt z) q) (fun c q=>by rw[ah (neH q)];exact q) (fun c xs q=>by rw[ah (neH q)];exact q) fun c o φ q=>by rw[ah (neH q)];exact q
end
def Itz (a b:Addr):It:=
 ⟨fun i H=>∃ xs ys x y,H a=some (.lst xs)∧H b=some (.lst ys)∧xs[i]?=some x∧ys[i]?=some y,
  fun i H v H'=>∃ t xs ys x y,H t=none∧H a=some (.lst xs)∧H b=some (.lst ys)∧xs[i]?=some x∧ys[i]?=some y∧v=.ref t∧H'=upd H t (.tup [x,y]),
  fun i H=>∃ xs ys,H a=some (.lst xs)∧H b=some (.lst ys)∧(xs.length≤i∨ys.length≤i)⟩
def Gj (z TI TO i1 i2 l1 l2:Addr) (i:Nat) (h:Heap):Prop:=IsZip h z TI TO .none∧IsPair h TI (.ref i1) (.ref i2)∧(∃ a b,IsPair h TO a b)∧h.IsListIter i1 l1 i∧h.IsListIter i2 l2 i
structure AJ (z TI TO i1 i2:Addr):Prop where
 TIz:TI≠z
 TOz:TO≠z
 i1z:i1≠z
 i2z:i2≠z
 TITO:TI≠TO
 TIi1:TI≠i1
 TIi2:TI≠i2
 TOi1:TO≠i1
 TOi2:TO≠i2
 i12:i1≠i2
theorem Ek {P:Program} {w:World} {K:PySem.W.Frag} {es:List Expr} {kt:Nat} {tp:Pos} (z TI TO i1 i2 l1 l2:Addr) (D:AJ z TI TO i1 i2) :
  Turn P w K (.Tuple es kt tp) (Itz l1 l2) [z,TI,TO,i1,i2] z (Gj z TI TO i1 i2 l1 l2) where
 mem:=by simp
 obj:=fun i h st b hb=>by
  obtain⟨hz,hTI,⟨a,c,hTO⟩,⟨o1,e1,_,d1⟩,⟨o2,e2,_,d2⟩⟩:=st
  simp only[List.mem_cons,List.not_mem_nil,or_false] at hb
  rcases hb with rfl | rfl | rfl | rfl | rfl
  ·exact⟨_,hz,fun v q=>by cases q⟩
  ·exact⟨_,hTI,fun v q=>by cases q⟩
  ·exact⟨_,hTO,fun v q=>by cases q⟩
  ·exact⟨_,e1,fun v q=>by rw[d1] at q;cases q⟩
  ·exact⟨_,e2,fun v q=>by rw[d2] at q;cases q⟩
 keep:=fun i h h' st k=>by
  obtain⟨hz,hTI,⟨a,c,hTO⟩,h1,h2⟩:=st
  exact⟨k z (by simp) _ hz,k TI (by simp) _ hTI,⟨a,c,k TO (by simp) _ hTO⟩,h1.at fun o e=>k i1 (by simp) o e,h2.at fun o e=>k i2 (by simp) o e⟩
 item:=by
  intro X hP hw hK hc i pins s σ H E I hf st hg
  subst hP hw hK
  obtain⟨xs,ys,x,y,ha,hb,hx,hy⟩:=hg
  obtain⟨hz,hTI,⟨a0,b0,hTO⟩,h1,h2⟩:=st
  obtain⟨ia,na,ra,ea,_⟩:=I.lst ha
  obtain⟨ib,nb,rb,eb,_⟩:=I.lst hb
  have nf:∀ b∈[z,TI,TO,i1,i2],H b=none:=fun b hb=>(hf b hb).1
  have ne1:∀ b∈[z,TI,TO,i1,i2],l1≠b:=fun b hb e=>by rw[e,nf b hb] at ha;cases ha
  have ne2:∀ b∈[z,TI,TO,i1,i2],l2≠b:=fun b hb' e=>by rw[e,nf b hb'] at hb;cases hb
  have Z:ZipApart z TI TO i1 i2 l1 l2:=⟨D.TIz,D.TOz,D.i1z,D.i2z,D.TITO,D.TIi1,D.TIi2,D.TOi1,D.TOi2,D.i12,ne1 z (by simp),ne1 TO (by simp),ne1 i1 (by simp),ne1 i2 (by simp),ne2 z (by simp),ne2 TO (by simp),ne2 i1 (by simp),ne2 i2 (by simp)⟩
  obtain⟨u,hu,ru⟩:=ra.get hx
  obtain⟨v,hv,rv⟩:=rb.get hy
  refine wpAny_pyNext_zip_item Z hz hTI hTO h1 h2 (xs:=ia.toArray) (ys:=ib.toArray) ⟨_,ea,rfl,_,rfl⟩ ⟨_,eb,rfl,_,rfl⟩ (x:=u) (y:=v) (by simpa using hu) (by simpa using hv) fun h' a1 a2 a3 a4 a5 a6 hk=>?_
  refine⟨_,rfl,wpAny_letOwnedTupleGo_zip a1 fun h2' hz' hs'=>?_⟩
  have zT:s.heap.objs.size≠z:=Nat.ne_of_gt (Heap.lt_size hz)
  refine⟨.ref s.heap.objs.size,upd H s.heap.objs.size (.tup [x,y]),?_,rfl,⟨_,xs,ys,x,y,I.hok.fresh (Nat.le_refl _),ha,hb,hx,hy,rfl,rfl⟩,?_,fun b hb'=>?_⟩
  ·refine I.uw (t':=s.toks) (ch:=[z,TO,i1,i2]) (u:=u) (v:=v) (fun b hb'=>hf b (by simp at hb' ⊢;rcases hb' with e | e | e | e <;> simp [e])) (Nat.le_refl _) (fun b o hb' e=>?_) ⟨_,hs'.extBut _ _ zT a5,rfl,_,rfl⟩ ru rv
   simp only[List.mem_cons,List.not_mem_nil,or_false,not_or] at hb'
   exact hs'.extBut b o hb'.1 (hk b o hb'.1 hb'.2.1 hb'.2.2.1 hb'.2.2.2 e)
  ·exact⟨hz',hs'.extBut _ _ D.TIz (hk _ _ D.TIz D.TITO D.TIi1 D.TIi2 hTI),⟨_,_,hs'.extBut _ _ D.TOz a2⟩,a3.extBut hs'.extBut D.i1z,a4.extBut hs'.extBut D.i2z⟩
  ·rw[ah]
   ·exact nf b hb'
   ·have hlt:∃ o,s.heap.get? b=some o:=by
     obtain⟨o1,e1,_⟩:=h1
     obtain⟨o2,e2,_⟩:=h2
     simp only[List.mem_cons,List.not_mem_nil,or_false] at hb'
     rcases hb' with rfl | rfl | rfl | rfl | rfl
     ·exact⟨_,hz⟩
     ·exact⟨_,hTI⟩
     ·exact⟨_,hTO⟩
     ·exact⟨_,e1⟩
     ·exact⟨_,e2⟩
    obtain⟨o,e⟩:=hlt
    exact Nat.ne_of_lt (Heap.lt_size e)
 done:=by
  intro X hP hw hK hc i pins s σ H E I hf st hg
  subst hP hw hK
  obtain⟨xs,ys,ha,hb,hl⟩:=hg
  obtain⟨hz,hTI,⟨a0,b0,hTO⟩,h1,h2⟩:=st
  obtain⟨ia,na,ra,ea,_⟩:=I.lst ha
  obtain⟨ib,nb,rb,eb,_⟩:=I.lst hb
  have nf:∀ b∈[z,TI,TO,i1,i2],H b=none:=fun b hb=>(hf b hb).1
  have ne1:∀ b∈[z,TI,TO,i1,i2],l1≠b:=fun b hb e=>by rw[e,nf b hb] at ha;cases ha
  have ne2:∀ b∈[z,TI,TO,i1,i2],l2≠b:=fun b hb' e=>by rw[e,nf b hb'] at hb;cases hb
  have Z:ZipApart z TI TO i1 i2 l1 l2:=⟨D.TIz,D.TOz,D.i1z,D.i2z,D.TITO,D.TIi1,D.TIi2,D.TOi1,D.TOi2,D.i12,ne1 z (by simp),ne1 TO (by simp),ne1 i1 (by simp),ne1 i2 (by simp),ne2 z (by simp),ne2 TO (by simp),ne2 i1 (by simp),ne2 i2 (by simp)⟩
  have la:=ra.length
  have lb:=rb.length
  refine wpAny_pyNext_zip_end (I.ok.hd hc) Z hz hTI hTO h1 h2 (xs:=ia.toArray) (ys:=ib.toArray) ⟨_,ea,rfl,_,rfl⟩ ⟨_,eb,rfl,_,rfl⟩ ?_ fun h' hk=>⟨rfl,I.moved (t':=s.toks) (ch:=[z,TO,i1,i2]) (fun b hb'=>hf b (by simp at hb' ⊢;rcases hb' with e | e | e | e <;> simp [e])) fun b o hb' e=>?_⟩
  ·rcases hl with hl | hl
   ·left;simp;omega
   ·right;simp;omega
  ·simp only[List.mem_cons,List.not_mem_nil,or_false,not_or] at hb'
   exact hk b o hb'.1 hb'.2.1 hb'.2.2.1 hb'.2.2.2 e
 self:=fun _ _ _ _ _ st h=>wpAny_pyIter_zip st.1 h
section
variable {X:Cx}
end
def Ite (a:Addr):It:=
 ⟨fun i H=>∃ xs x,H a=some (.lst xs)∧xs[i]?=some x,
  fun i H v H'=>∃ t xs x,H t=none∧H a=some (.lst xs)∧xs[i]?=some x∧v=.ref t∧H'=upd H t (.tup [.int i,x]),
  fun i H=>∃ xs,H a=some (.lst xs)∧xs.length≤i⟩
def G_ (e it l:Addr) (i:Nat) (h:Heap):Prop:=(∃ old,IsEnum h e it i old)∧h.IsListIter it l i
theorem vo {P:Program} {w:World} {K:PySem.W.Frag} {es:List Expr} {kt:Nat} {tp:Pos} (e it l:Addr) (D:e≠it):Turn P w K (.Tuple es kt tp) (Ite l) [e,it] e (G_ e it l) where
 mem:=by simp
 obj:=fun i h st b hb=>by
  obtain⟨⟨old,he⟩,⟨o1,e1,_,d1⟩⟩:=st
  simp only[List.mem_cons,List.not_mem_nil,or_false] at hb
  rcases hb with rfl | rfl
  ·exact⟨_,he,fun v q=>by cases q⟩
  ·exact⟨_,e1,fun v q=>by rw[d1] at q;cases q⟩
 keep:=fun i h h' st k=>by
  obtain⟨⟨old,he⟩,h1⟩:=st
  exact⟨⟨old,k e (by simp) _ he⟩,h1.at fun o e=>k it (by simp) o e⟩
 item:=by
  intro X hP hw hK hc i pins s σ H E I hf st hg
  subst hP hw hK
  obtain⟨xs,x,ha,hx⟩:=hg
  obtain⟨⟨old,he⟩,h1⟩:=st
  obtain⟨ia,na,ra,ea,_⟩:=I.lst ha
  have nf:∀ b∈[e,it],H b=none:=fun b hb=>(hf b hb).1
  obtain⟨u,hu,ru⟩:=ra.get hx
  refine wpAny_pyNext_enum_item he h1 (items:=ia.toArray) ⟨_,ea,rfl,_,rfl⟩ (x:=u) (by simpa using hu) D fun h' a1 a2 a3 a4 hk=>?_
  refine⟨_,rfl,wpAny_letOwnedTupleGo_enum a1 fun h2' he' hs'=>?_⟩
  have eT:s.heap.objs.size≠e:=Nat.ne_of_gt (Heap.lt_size he)
  refine⟨.ref s.heap.objs.size,upd H s.heap.objs.size (.tup [.int i,x]),?_,rfl,⟨_,xs,x,I.hok.fresh (Nat.le_refl _),ha,hx,rfl,rfl⟩,?_,fun b hb'=>?_⟩
  ·refine I.uw (t':=s.toks + 1) (ch:=[e,it]) (u:=.int i s.toks) (v:=u) hf (Nat.le_refl _) (fun b o hb' q=>?_) ⟨_,hs'.extBut _ _ eT a3,rfl,_,rfl⟩ ⟨_,rfl⟩ ru
   simp only[List.mem_cons,List.not_mem_nil,or_false,not_or] at hb'
   exact hs'.extBut b o hb'.1 (hk b o hb'.1 hb'.2 q)
  ·exact⟨⟨_,by simpa using he'⟩,a2.extBut hs'.extBut (Ne.symm D)⟩
  ·rw[ah]
   ·exact nf b hb'
   ·have hlt:∃ o,s.heap.get? b=some o:=by
     obtain⟨o1,e1,_⟩:=h1
     simp only[List.mem_cons,List.not_mem_nil,or_false] at hb'
     rcases hb' with rfl | rfl
     ·exact⟨_,he⟩
     ·exact⟨_,e1⟩
    obtain⟨o,q⟩:=hlt
    exact Nat.ne_of_lt (Heap.lt_size q)
 done:=by
  intro X hP hw hK hc i pins s σ H E I hf st hg
  subst hP hw hK
  obtain⟨xs,ha,hl⟩:=hg
  obtain⟨⟨old,he⟩,h1⟩:=st
  obtain⟨ia,na,ra,ea,_⟩:=I.lst ha
  have la:=ra.length
  exact wpAny_pyNext_enum_end (I.ok.hd hc) he h1 (items:=ia.toArray) ⟨_,ea,rfl,_,rfl⟩ (by simp;omega) fun h' hk=>⟨rfl,I.moved (t':=s.toks) (ch:=[it]) (fun b hb'=>hf b (by simp at hb' ⊢;simp [hb'])) fun b o hb' q=>hk b o (fun z=>hb' (by simp [z])) q⟩
 self:=fun _ _ _ _ _ st h=>by obtain⟨⟨old,he⟩,_⟩:=st;exact wpAny_pyIter_enum he h
section
variable {X:Cx}
def By (ta:TA):TI:=fun σ H R=>ta σ H fun vs H1=>∃ (p:Addr) (xs:List V),vs=[.ref p]∧H1 p=some (.lst xs)∧R (Ite p) H1
theorem zX {a:Expr} {ta:TA} {es:List Expr} {kt:Nat} {tp p pos:Pos} (hg:Gl X "enumerate") (hm:X.mg "enumerate"=none) (ha:PA X [a] ta) (hs:starEach [a] X.env=[(false,eval a X.env)]:=by rfl) :
  PI X (.Tuple es kt tp) (.Call (.Name "enumerate" p) [a] [] pos) (By ta):=by
 intro pins s σ H R I h
 refine Call_ (kf I hg hm (by decide +kernel:bootBuiltins "enumerate"=some (.type "enumerate")) (PyProof.Rows.callWith_type1 (thn (ha pos pins s σ H _ I h) fun us s1 ⟨vs,H1,I1,r1,q1⟩=>?_) hs rfl))
 obtain⟨l,xs,e,h1,q⟩:=q1
 subst e
 obtain⟨u,rfl,ru⟩:=vals1 r1
 cases ru
 obtain⟨ia,na,ra,ea,_⟩:=I1.lst h1
 refine call_enumerate_1 ea fun h' he hi hsz hk=>wpAny_pyIter_enum he ?_
 have I2:Inv X pins σ H1 { s1 with heap:=h' }:=I1.kept (t':=s1.toks) hk
 refine⟨_,_,_,_,H1,rfl,I2,vo _ _ l (Nat.succ_ne_self _),⟨⟨_,by simpa using he⟩,hi⟩,fun b hb=>?_,q⟩
 have hge:s1.heap.objs.size≤b:=by
  simp only[List.mem_cons,List.not_mem_nil,or_false] at hb
  rcases hb with rfl | rfl <;> omega
 exact I1.rW hge (I1.hok.fresh hge)
def lQ (xs:List V) (lo hi st:Option Int):List V:=
 (sliceRange (sliceBounds lo hi st xs.length).1 (sliceBounds lo hi st xs.length).2.1 (sliceBounds lo hi st xs.length).2.2).filterMap (xs[·]?)
theorem Vals.places:∀ {xs:List V} {us:List Value},Vals xs us→∀ js:List Nat,Vals (js.filterMap (xs[·]?)) (js.filterMap (us[·]?))
 | _,_,_,[]=>.nil
 | xs,us,h,j::js=>by
  have ih:=Vals.places h js
  cases hn:xs[j]? with
  | some x=>
   obtain⟨u,hu,r⟩:=h.get hn
   simp only[List.filterMap_cons,hn,hu]
   exact .cons r ih
  | none=>
   have hv:=h.none_of hn
   simp only[List.filterMap_cons,hn,hv]
   exact ih
def Em (K:PySem.W.Frag) (te:TE) (tl th ts:TO):TE:=fun σ H Q=>te σ H fun x H1=>tl σ H1 fun l H2=>th σ H2 fun u H3=>ts σ H3 fun k H4=>k≠some 0∧∃ a xs,x=.ref a∧SqL K H4 a xs∧∀ p,H4 p=none→Q (.ref p) (upd H4 p (.lst (lQ xs l u k)))
theorem vG {e:Expr} {te:TE} {lo hi:Option Expr} {st:Expr} {tl th ts:TO} {p2 pos:Pos} (he:PE X e te) (hl:PO X lo tl) (hu:PO X hi th) (hs:PO X (some st) ts):PE X (.Subscript e (.Slice lo hi (some st) p2) pos) (Em X.K te tl th ts):=by
 intro pins s σ H Q I h
 refine Subscript_ (thn (he pins s σ H _ I h) fun v s1 ⟨x,H1,I1,r1,q1⟩=>?_)
 refine wpAny_Slice (thn (hl pins s1 σ H1 _ I1 q1) fun vl s2 ⟨l,H2,I2,pl,q2⟩=>thn (hu pins s2 σ H2 _ I2 q2) fun vu s3 ⟨u,H3,I3,pu,q3⟩=>thn (hs pins s3 σ H3 _ I3 q3) fun vk s4 ⟨k,H4,I4,pk,q4⟩=>?_)
 obtain⟨k0,a,xs,rfl,hx,q⟩:=q4
 cases r1
 have I5:Inv X pins σ H4 { s4 with heap:=s4.heap.push { cls:=.type "slice",data:=.fields #[vl,vu,vk] } }:=I4.kept (t':=s4.toks) fun b ob q=>Heap.get?_push_of_some _ q
 obtain⟨its,r,ht,hz⟩:=I5.list hx
 have hlen:=r.length
 show wpAny (model X.prog X.w) X.A (subscriptTail e (.Slice lo hi (some st) p2) (.ref a) (.ref s4.heap.objs.size)) (EP X pins σ Q) X.xe { s4 with heap:=s4.heap.push { cls:=.type "slice",data:=.fields #[vl,vu,vk] } }
 refine tail_any (ops:=[.ref a,.ref s4.heap.objs.size]) ht.isList.typeIs slot_list_getitem.lookup (wpAny_getItem_list_slice ht.isList (Heap.IsSliceOf.new ..) pl pu pk k0 ?_ (by rw[List.size_toArray] <;> omega)) (by with_unfolding_all rfl)
 refine⟨.ref _,_,I5.laid (t':=s4.toks) (o:=.lst (lQ xs l u k)) (fun b ob q=>Heap.get?_push_of_some _ q) (Nat.le_refl _) ?_,rfl,q _ (I5.hok.fresh (Nat.le_refl _))⟩
 have rp:Vals (lQ xs l u k) (slicePick its.toArray l u k).toList:=by
  have e:(slicePick its.toArray l u k).toList=(sliceRange (sliceBounds l u k xs.length).1 (sliceBounds l u k xs.length).2.1 (sliceBounds l u k xs.length).2.2).filterMap (its[·]?):=by
   simp [slicePick,hlen]
  rw[e]
  exact r.places _
 have hsz:=slicePick_size_le its.toArray l u k
 have h2:=rp.length
 simp only[Array.length_toList,List.size_toArray] at h2 hsz
 exact⟨by omega,_,0,rp,Heap.get?_push_size _ rfl⟩
end
end L2
namespace L2
open PySem PySem.Spec PyProof.Rows
section
variable {prog:Program} {w:World} {A:Around} {E:Value→Shared→Prop} {s:Shared}
theorem yH {R:Result→Shared→Prop} {I S:Addr} {res:Value} {n:Nat} (J:Nat→List Value→Shared→Prop) (hn:n < sizeLine) (hlen:∀ i acc s,J i acc s→acc.length=i)
  (item:∀ i acc s E,i < n→J i acc s→wpAny (model prog w) A.in1 (pyNext (.ref I)) (fun r s'=>∃ v c,r=some v∧s'.heap.get? S=some (bu acc c)∧∀ h',Heap.SameBut S s'.heap h'→h'.get? S=some (bu (acc++[v]) (c + 1))→J (i + 1) (acc++[v]) { s' with heap:=h' }) E s)
  (done:∀ acc s E,J n acc s→wpAny (model prog w) A.in1 (pyNext (.ref I)) (fun r s'=>r=none∧R (.ok (.ret res)) s') E s) :
  ∀ (k i:Nat) (acc:List Value) (s:Shared),n - i=k→i≤n→J i acc s→codeAny (model prog w) A (.builtin "list.extend.loop" ⟨[.ref S,.ref I,res],[]⟩) R s:=by
 intro k
 induction k with
 | zero=>
  intro i acc s hk hi hJ
  obtain rfl:i=n:=by omega
  refine codeAny_builtin F.entry_extend_loop ?_
  rw[Around.under_plainId F.plain_extend_loop _]
  show wpAny _ A.in1 (pyNext (.ref I) >>= fun r=>_) _ _ s
  refine wpAny_bind (thn (done acc s _ hJ) fun r s' ⟨hr,q⟩=>?_)
  subst hr
  exact wpAny_pure q
 | succ k ih=>
  intro i acc s hk hi hJ
  refine codeAny_builtin F.entry_extend_loop ?_
  rw[Around.under_plainId F.plain_extend_loop _]
  show wpAny _ A.in1 (pyNext (.ref I) >>= fun r=>_) _ _ s
  refine wpAny_bind (thn (item i acc s _ (by omega) hJ) fun r s' ⟨v,c,hr,hS,q⟩=>?_)
  subst hr
  have hl:=hlen i acc s hJ
  show wpAny _ A.in1 (updateSeq S (·.push v) >>= fun r=>_) _ _ _
  have eo:Obj.mapSeq (·.push v) (bu acc c)=bu (acc++[v]) (c + 1):=by
   show Obj.mapSeq (·.push v) { cls:=.type "list",dict:=none,data:=.seq acc.toArray c,slots:=#[] }=_
   rw[mapSeq_push,List.push_toArray]
  refine wpAny_bind (wpAny_updateSeq hS rfl (wpAny_pure ⟨plainId_quiet F.plain_extend_loop _,ih (i + 1) (acc++[v]) _ (by omega) (by omega) (q _ (Heap.SameBut.update ..) ?_)⟩) (by rw[List.size_toArray];omega) (by show (acc.toArray.push v).size≤sizeLine + 1;rw[Array.size_push,List.size_toArray];omega))
  rw[Heap.get?_update_self _ hS (by rw[eo];rfl),eo]
end
end L2
namespace L2
open PySem PySem.Spec PyProof.Rows
section
variable {X:Cx} {pins:List (Addr×Obj)} {σ:St} {H:Hp} {s:Shared}
theorem Inv.adopt {S:Addr} {xs:List V} {us:List Value} {c:Nat} (I:Inv X pins σ H s) (fS:e9 X pins H S) (hS:s.heap.get? S=some (bu us c)) (r:Vals xs us) (hz:xs.length≤sizeLine):Inv X pins σ (upd H S (.lst xs)) s:=by
 have neH:∀ {b:Addr} {u:HO},H b=some u→b≠S:=fun e z=>by rw[z,fS.1] at e;cases e
 refine⟨I.ok,I.os,I.bare,⟨I.base.keep,I.base.slot,fun b o e n hx=>?_,I.base.there,fun b ys e=>?_,fun b o u e=>?_,fun b ps e=>?_⟩,I.loc,I.cell,?_,fun x d e=>?_,fun p hp=>?_,fun b u e=>?_,I.len⟩
 ·have nb:b≠S:=fun z=>by
   rcases fS.2.2.2.1 with q | q
   ·exact hx (by rw[z];exact q)
   ·exact absurd (Nat.lt_of_lt_of_le (Heap.lt_size e) (by rw[z];exact q)) (Nat.lt_irrefl _)
  rw[ah nb]
  exact I.base.free b o e n hx
 ·have q:=I.base.tups b ys e
  rw[ah (neH q)];exact q
 ·have q:=I.base.frzs b o u e
  rw[ah (neH q)];exact q
 ·obtain⟨m,q⟩:=I.base.tbls b ps e
  exact⟨m,by rw[ah (neH q)];exact q⟩
 ·rw[ah (Ne.symm fS.2.1)];exact I.free
 ·rw[ah (fS.2.2.2.2.1 x d e)];exact I.freeC x d e
 ·obtain⟨e1,e2,e3⟩:=I.pin p hp
  exact⟨e1,by rw[ah (fS.2.2.2.2.2 p hp)];exact e2,e3⟩
 ·by_cases hb:b=S
  ·subst hb
   rw[au] at e
   cases e
   exact⟨hz,us,c,r,hS⟩
  ·rw[ah hb] at e
   exact(I.hok b u e).j8 (fun _ _ _ q=>q) (fun d q=>by rw[ah (neH q)];exact q) (fun d ys q=>by rw[ah (neH q)];exact q) fun d o φ q=>by rw[ah (neH q)];exact q
theorem e9.heap {b:Addr} {H':Hp} (f:e9 X pins H b) (h:H' b=none):e9 X pins H' b:=⟨h,f.2⟩
end
end L2
namespace L2
open PySem PySem.Spec PyProof.Rows
section
variable {X:Cx} {C:Addr} {x:Str} {p pos:Pos}
structure Mk0 (K:PySem.W.Frag) (C:Addr):Prop where
 makes:PySem.W.makesIn K C=true
 init:PySem.W.findIn K (.ref C) "__init__"=some (some (.builtin "object.__init__"))
 kp:PySem.W.keepIn K (.ref C)=true
def ua (C:Addr):TE:=fun _ H Q=>∀ x dx,H x=none→H dx=none→dx≠x→Q (.ref x) (upd (upd H dx (.own x)) x (.ins C dx []))
theorem vH (M:Mk0 X.K C) (hg:Gl X x) (hm:X.mg x=some (.ref C)) (hdb:(x == ("__debug__":Str))=false:=by decide):PE X (.Call (.Name x p) [] [] pos) (ua C):=by
 intro pins s σ H Q I h
 refine wpAny_Call_Name_kw (gz I hg hm ?_ hdb)
 refine PySem.W.callWith_K0 I.kIn M.kp (wpAny_call ?_)
 have hq:=h (s.heap.objs.size + 1) s.heap.objs.size (I.hok.fresh (Nat.le_succ _)) (I.hok.fresh (Nat.le_refl _)) (Nat.ne_of_lt (Nat.lt_succ_self _))
 have I2:=Inv.made (C:=C) I
 have Y:=PySem.W.makes_of (M:=model X.prog X.w) I.kIn M.makes
 refine vP I.kIn M.makes M.init (fun self=>PySem.W.Looks.of_pure (PySem.W.oi_bind self)) ?_
 have e2:((s.heap.push PySem.W.emptyDict).push (PySem.W.instObj C s.heap.objs.size)).get? (s.heap.objs.size + 1)=some (PySem.W.instObj C s.heap.objs.size):=by
  have:=Heap.get?_push_size (s.heap.push PySem.W.emptyDict) (o:=PySem.W.instObj C s.heap.objs.size) rfl
  rwa [Heap.size_push] at this
 have t1:PySem.W.Looks (model X.prog X.w) ((s.heap.push PySem.W.emptyDict).push (PySem.W.instObj C s.heap.objs.size)) (typeOf (.ref (s.heap.objs.size + 1))) (.ref C):=(PySem.W.Looks.ld e2).andThen .now
 have t2:PySem.W.Looks (model X.prog X.w) ((s.heap.push PySem.W.emptyDict).push (PySem.W.instObj C s.heap.objs.size)) (isInstance (.ref (s.heap.objs.size + 1)) (.type "object")) true:=t1.andThen (Y.top.keeps fun b o e=>Heap.get?_push_of_some _ (Heap.get?_push_of_some _ e))
 refine codeAny_call_builtin PySem.W.oi_plain PySem.W.entry_oi (@PySem.W.check_slot (model X.prog X.w) _ _ _ "object.__init__" "object" "__init__" (.ref (s.heap.objs.size + 1)) [] [] _ PySem.W.oi_kind PySem.W.oi_split t2 (PySem.W.oi_args (.ref (s.heap.objs.size + 1))) ?_)
 rw[PySem.W.oi_run]
 exact wpAny_pure (And.intro rfl ⟨V.ref (s.heap.objs.size + 1),_,I2,rfl,hq⟩)
end
theorem uR {α β:Type} {f:α→Option β} {g:α→β}:∀ {l:List α},(∀ k∈l,f k=some (g k))→l.filterMap f=l.map g
 | [],_=>rfl
 | k::l,h=>by
  rw[List.filterMap_cons,h k List.mem_cons_self,List.map_cons,uR fun j hj=>h j (List.mem_cons_of_mem _ hj)]
theorem GU (ns:List Int) {k:Nat} (h:k < ns.length):(ns.map V.int)[k]?=some (V.int (ns.getD k 0)):=by
 rw[List.getElem?_map,List.getD_eq_getElem?_getD,List.getElem?_eq_getElem h]
 rfl
theorem EO (ns:List Int):lQ (ns.map V.int) (some 0) none (some 2)=(List.range ((ns.length + 1) / 2)).map fun k=>V.int (ns.getD (2 * k) 0):=by
 have e:sliceBounds (some 0) none (some 2) (ns.map V.int).length=(0,(ns.length:Int),2):=by
  simp [sliceBounds];omega
 unfold lQ
 rw[e]
 have e2:sliceRange 0 (ns.length:Int) 2=(List.range ((ns.length + 1) / 2)).map fun k=>2 * k:=by
  unfold sliceRange
  have ec:(if (2:Int) > 0 then (if (0:Int) < (ns.length:Int) then ((ns.length:Int) - 0 + 2 - 1) / 2 else 0) else (if (0:Int) > (ns.length:Int) then (0 - (ns.length:Int) - 2 - 1) / (-2) else 0)).toNat=(ns.length + 1) / 2:=by
   rw[if_pos (by decide)]
   split <;> omega
  simp only[ec]
  refine List.map_congr_left fun k _=>?_
  omega
 simp only[e2,List.filterMap_map]
 refine uR fun k hk=>?_
 have:=List.mem_range.mp hk
 exact GU ns (show 2 * k < ns.length by omega)
end L2
namespace L2
open PySem PySem.Spec PyProof.Rows
section
variable {X:Cx} {tg:Expr}
end
end L2
namespace L2
open PySem PySem.Spec PyProof.Rows
end L2
namespace L2
open PySem PySem.Spec PyProof.Rows
def sgn (c:Nat):Str:=⟨#[c]⟩
section
variable {X:Cx} {tg:Expr}
end
end L2
namespace L2
open PySem PySem.Spec PyProof.Rows
section
variable {X:Cx} {tg:Expr}
end
end L2
namespace L2
open PySem PySem.Spec PyProof.Rows
section
variable {prog:Program} {w:World} {A:Around} {E:Value→Shared→Prop} {s:Shared}
end
section
variable {X:Cx} {tg:Expr}
end
end L2
namespace L2
open PySem PySem.Spec PyProof.Rows
section
variable {prog:Program} {w:World} {A:Around} {E:Value→Shared→Prop} {s:Shared}
end
end L2
namespace L2
open PySem PySem.Spec PyProof.Rows
section
variable {X:Cx} {pins:List (Addr×Obj)} {σ:St} {H:Hp} {s:Shared}
end
end L2
namespace L2
open PySem PySem.Spec PyProof.Rows
section
variable {prog:Program} {w:World} {A:Around} {E:Value→Shared→Prop} {s:Shared}
end
section
variable {X:Cx}
end
end L2
namespace L2
open PySem PySem.Spec PyProof.Rows
structure ExcAt (n:Nat) (H:Hp) (h:Heap) (e:Addr) (cls:Value) (dx:Option Addr):Prop where
 ge:n≤e
 free:H e=none
 rcd:∃ oe vs,h.get? e=some oe∧oe.cls=cls∧oe.dict=dx∧oe.data=.fields vs∧1 < vs.size∧
  (vs[1]?=some .none∨∃ T oT ts,vs[1]?=some (.ref T)∧n≤T∧T≠e∧H T=none∧h.get? T=some oT∧oT.data=.fields ts∧ts[3]?=some .none)
structure Lv (n:Nat) (H:Hp) (fs:List Addr) (h h':Heap):Prop where
 keep:∀ b o,h.get? b=some o→b∉fs→(b < n∨H b≠none)→h'.get? b=some o
 slot:∀ b o,h.get? b=some o→b∈fs→∃ sl,h'.get? b=some { o with slots:=sl }
 there:∀ b o,h.get? b=some o→∃ o',h'.get? b=some o'
theorem Lv.trans {n:Nat} {H:Hp} {fs:List Addr} {h h1 h2:Heap} (x:Lv n H fs h h1) (y:Lv n H fs h1 h2):Lv n H fs h h2 where
 keep:=fun b o q nf hb=>y.keep b o (x.keep b o q nf hb) nf hb
 slot:=fun b o q hb=>by
  obtain⟨sl,q1⟩:=x.slot b o q hb
  obtain⟨sl2,q2⟩:=y.slot b _ q1 hb
  exact⟨sl2,q2⟩
 there:=fun b o q=>let ⟨_,q1⟩:=x.there b o q;y.there b _ q1
section
variable {M:Model} {A:Around} {E:Value→Shared→Prop} {s:Shared} {base:Heap} {env:Env} {outer:List Env} {L e:Addr} {n:Nat} {H:Hp} {cls:Value} {dx:Option Addr}
theorem r9 {oe:Obj} {vs:Array Value} {head:Value} {hadNext:Bool} {Q:Unit→Shared→Prop} (hfr:A.frames=some (env::outer)) (hl:s.heap.FunFrames base (env::outer)) (hf:env.frame=some L)
  (hn:n≤s.heap.objs.size) (hH:∀ b,s.heap.objs.size≤b→H b=none) (ge:n≤e) (fr:H e=none) (he:s.heap.get? e=some oe) (hc:oe.cls=cls) (hx:oe.dict=dx) (hd:oe.data=.fields vs) (hz:1 < vs.size)
  (h:∀ h',Lv n H (frs (env::outer)) s.heap h'→ExcAt n H h' e cls dx→h'.FunFrames base (env::outer)→Q () { s with heap:=h' }) :
  wpAny M A (frameOf env >>= fun fo=>entryPlaceOf L hadNext >>= fun place=>EntryCells.newEntry head fo .none (rawInt L) .none place >>= setField (.ref e) 1) (fun _ s'=>wpAny M A (setFlight (.ref e) none) Q E s') E s:=by
 have ef:e∉frs (env::outer):=fun m=>by
  obtain⟨_,o,ho,nf⟩:=hl.mem m
  rw[he] at ho;cases ho
  exact nf vs hd
 refine wpAny_bind (wpAny_frameOf_fun hfr hl hf fun h1 so=>wpAny_bind (wpAny_entryPlaceOf fun pl hpl=>?_))
 unfold EntryCells.newEntry newFields
 have fits:=hpl.sizeOk5 head (.ref L) .none (rawInt L) .none
 refine wpAny_bind (wpAny_newObj_type ?_ fits)
 generalize hob:({ cls:=.type "traceback",dict:=none,data:=.fields ([head,.ref L,.none,rawInt L,.none]++(if pl.isEmpty then List.replicate 6 Value.none else pl)).toArray }:Obj)=ob
 have hbd:ob.data=.fields ([head,.ref L,.none,rawInt L,.none]++(if pl.isEmpty then List.replicate 6 Value.none else pl)).toArray:=by rw[← hob]
 have bf:ob.isFreed=false:=by rw[← hob];rfl
 have e1:h1.get? e=some oe:=(so.2.1 e ef).trans he
 have e2:=Heap.get?_push_of_some (h:=h1) ob e1
 refine wpAny_setField e2 hd hz ?_
 have ne:h1.objs.size≠e:=Nat.ne_of_gt (Heap.lt_size e1)
 have d3:=Obj.data_mapFields hd (·.setIfInBounds 1 (Value.ref h1.objs.size))
 have e3:=Heap.get?_update_self (Obj.mapFields (·.setIfInBounds 1 (Value.ref h1.objs.size))) e2 (Obj.isFreed_of_fields d3)
 have t3:=(Heap.get?_update_other (h1.push ob) (Obj.mapFields (·.setIfInBounds 1 (Value.ref h1.objs.size))) (Ne.symm ne)).trans (Heap.get?_push_size h1 bf)
 unfold setFlight
 refine wpAny_bind (wpAny_field e3 d3 (x:=.ref h1.objs.size) (by simp [hz]) ?_)
 rw[if_pos (show (Value.ref h1.objs.size != Value.none)=true by simp)]
 have tz:3 < ([head,.ref L,.none,rawInt L,.none]++(if pl.isEmpty then List.replicate 6 Value.none else pl)).toArray.size:=by
  simp only[List.size_toArray,List.length_append,List.length_cons,List.length_nil];omega
 refine wpAny_setField t3 hbd tz (h _ ⟨fun b o q nf hb=>?_,fun b o q hb=>?_,fun b o q=>?_⟩ ⟨ge,fr,?_⟩ ?_)
 ·have q1:h1.get? b=some o:=(so.2.1 b nf).trans q
  have nt:h1.objs.size≠b:=Nat.ne_of_gt (Heap.lt_size q1)
  have nb:e≠b:=fun z=>by
   subst z
   rcases hb with w | w
   ·exact Nat.lt_irrefl _ (Nat.lt_of_lt_of_le w ge)
   ·exact w fr
  rw[Heap.get?_update_other _ _ nt,Heap.get?_update_other _ _ nb]
  exact Heap.get?_push_of_some _ q1
 ·obtain⟨sl,q1⟩:=so.2.2 b o q
  have nt:h1.objs.size≠b:=Nat.ne_of_gt (Heap.lt_size q1)
  have nb:e≠b:=fun z=>ef (by rw[z];exact hb)
  refine⟨sl,?_⟩
  rw[Heap.get?_update_other _ _ nt,Heap.get?_update_other _ _ nb]
  exact Heap.get?_push_of_some _ q1
 ·obtain⟨sl,q1⟩:=so.2.2 b o q
  have nt:h1.objs.size≠b:=Nat.ne_of_gt (Heap.lt_size q1)
  by_cases z:b=e
  ·subst z
   exact⟨_,by rw[Heap.get?_update_other _ _ nt];exact e3⟩
  ·exact⟨_,by rw[Heap.get?_update_other _ _ nt,Heap.get?_update_other _ _ (Ne.symm z)];exact Heap.get?_push_of_some _ q1⟩
 ·have t4:=Heap.get?_update_self (Obj.mapFields (·.setIfInBounds 3 ((none:Option Addr).elim Value.none fun f=>rawInt f))) t3 (Obj.isFreed_of_fields (Obj.data_mapFields hbd _))
  refine⟨_,_,by rw[Heap.get?_update_other _ _ ne];exact e3,by rw[Obj.cls_mapFields];exact hc,?_,d3,by simpa using hz,.inr ⟨h1.objs.size,_,_,by simp [hz],by rw[so.1];exact hn,ne,hH _ (by rw[so.1];exact Nat.le_refl _),t4,Obj.data_mapFields hbd _,?_⟩⟩
  ·rw[← hx]
   obtain⟨c0,d0,dt0,s0⟩:=oe
   cases dt0 <;> rfl
  ·rw[Array.getElem?_setIfInBounds_self_of_lt tz];rfl
 ·refine hl.of_keeps fun b o q nf=>?_
  obtain⟨sl,q1⟩:=so.2.2 b o q
  have nt:h1.objs.size≠b:=Nat.ne_of_gt (Heap.lt_size q1)
  have nb:e≠b:=fun z=>by
   subst z
   rw[he] at q;cases q
   exact nf vs hd
  exact⟨{ o with slots:=sl },by rw[Heap.get?_update_other _ _ nt,Heap.get?_update_other _ _ nb];exact Heap.get?_push_of_some _ q1,rfl⟩
theorem rS {Q:Unit→Shared→Prop} (hfr:A.frames=some (env::outer)) (hl:s.heap.FunFrames base (env::outer)) (hf:env.frame=some L) (hn:n≤s.heap.objs.size) (hH:∀ b,s.heap.objs.size≤b→H b=none)
  (x:ExcAt n H s.heap e cls dx) (h:∀ h',Lv n H (frs (env::outer)) s.heap h'→ExcAt n H h' e cls dx→h'.FunFrames base (env::outer)→Q () { s with heap:=h' }):wpAny M A (noteFrame (.ref e) env) (fun _ s'=>wpAny M A (setFlight (.ref e) none) Q E s') E s:=by
 obtain⟨ge,fr,oe,vs,he,hc,hx,hd,hz,tb⟩:=x
 rcases tb with h1 | ⟨T,oT,ts,h1,gT,nT,fT,hT,hdT,h3⟩
 ·unfold noteFrame
  simp only[hf]
  refine wpAny_bind (wpAny_field he hd h1 ?_)
  rw[if_neg (by decide)]
  exact r9 hfr hl hf hn hH ge fr he hc hx hd hz h
 ·unfold noteFrame
  simp only[hf]
  refine wpAny_bind (wpAny_field he hd h1 ?_)
  rw[if_pos (show (Value.ref T != Value.none)=true by simp)]
  refine wpAny_bind (wpAny_field hT hdT h3 ?_)
  rw[if_neg (show ¬ ((Value.none == rawInt L)=true) by simp [rawInt])]
  have three:=(Array.getElem?_eq_some_iff.mp h3).1
  refine wpAny_bind (wpAny_setField hT hdT three ?_)
  have ot:∀ b,b≠T→(s.heap.update T (Obj.mapFields (·.setIfInBounds 3 Value.none))).get? b=s.heap.get? b:=fun b hb=>Heap.get?_update_other _ _ (Ne.symm hb)
  have tT:=Heap.get?_update_self (Obj.mapFields (·.setIfInBounds 3 Value.none)) hT (Obj.isFreed_of_fields (Obj.data_mapFields hdT _))
  have nr:∀ b o,s.heap.get? b=some o→(∀ vs,o.data≠.fields vs)→b≠T:=fun b o hb nf z=>by
   rw[z,hT] at hb;cases hb
   exact nf ts hdT
  have sz:(s.heap.update T (Obj.mapFields (·.setIfInBounds 3 Value.none))).objs.size=s.heap.objs.size:=Heap.size_after_update ..
  have fT':T∉frs (env::outer):=fun m=>by
   obtain⟨_,o,ho,nf⟩:=hl.mem m
   rw[hT] at ho;cases ho
   exact nf ts hdT
  refine r9 (s:={ s with heap:=s.heap.update T (Obj.mapFields (·.setIfInBounds 3 Value.none)) }) hfr (hl.of_keeps fun b o hb nf=>⟨o,(ot b (nr b o hb nf)).trans hb,rfl⟩) hf (by show n≤_;rw[sz];exact hn) (fun b hb=>hH b (by have hb:_≤b:=hb;rw[sz] at hb;exact hb)) ge fr ((ot e (Ne.symm nT)).trans he) hc hx hd hz fun h' lv ex ff=>h h' ?_ ex ff
  refine Lv.trans (h1:=s.heap.update T (Obj.mapFields (·.setIfInBounds 3 Value.none))) ⟨fun b o q nf hb=>(ot b fun z=>?_).trans q,fun b o q hb=>⟨o.slots,(ot b fun z=>fT' (by rw[← z];exact hb)).trans q⟩,fun b o q=>?_⟩ lv
  ·subst z
   rcases hb with w | w
   ·exact Nat.lt_irrefl _ (Nat.lt_of_lt_of_le w gT)
   ·exact w fT
  ·by_cases z:b=T
   ·subst z;exact⟨_,tT⟩
   ·exact⟨o,(ot b z).trans q⟩
theorem x_ {Q:Unit→Shared→Prop} (hfr:A.frames=some (env::outer)) (hl:s.heap.FunFrames base (env::outer)) (hf:env.frame=some L) (hn:n≤s.heap.objs.size) (hH:∀ b,s.heap.objs.size≤b→H b=none)
  (x:ExcAt n H s.heap e cls dx) (h:∀ h',Lv n H (frs (env::outer)) s.heap h'→ExcAt n H h' e cls dx→h'.FunFrames base (env::outer)→Q () { s with heap:=h' }):wpAny M A (leaving env (.ref e)) Q E s:=by
 unfold leaving
 exact wpAny_bind (rS hfr hl hf hn hH x h)
def CX1 (P:Program) (w:World) (base:Heap):CXT:=fun outer H s E ev s'=>∃ e cls dx H',ev=.ref e∧s'.os=s.os∧AllBare s'.gens∧Un (frs outer) [] H H' s.heap s'.heap∧HOk P w H' s'.heap∧s'.heap.FunFrames base outer∧ExcAt s.heap.objs.size H' s'.heap e cls dx∧E cls dx H'
end
end L2
namespace L2
open PySem PySem.Spec PyProof.Rows
section
variable {P:Program} {w:World} {K:PySem.W.Frag} {mg:Str→Option Value} {base:Heap} {N:List Str} {qual:Str} {scope:Scope} {f:Addr} {cd:Value} {A:Around} {outer:List Env} {s:Shared} {H:Hp} {E:XK}
theorem wx {CX:CXT} {pins:List (Addr×Obj)} {σ:St} {H1 H':Hp} {s1 s':Shared} {e:Addr} {cls:Value} {dx:Option Addr} (I:Inv (jO (CX1 P w base) P w K mg base N qual scope f cd A outer s H E) pins σ H1 s1) (os:s'.os=s1.os) (bare:AllBare s'.gens)
  (un:Un (frs (envOfC qual scope s.heap.objs.size f cd::outer)) [] H1 H' s1.heap s'.heap) (hok:HOk P w H' s'.heap) (ff:s'.heap.FunFrames base (envOfC qual scope s.heap.objs.size f cd::outer)) (x':ExcAt s.heap.objs.size H' s'.heap e cls dx) (hE:E cls dx H') :
  (jO (CX1 P w base) P w K mg base N qual scope f cd A outer s H E).xe (.ref e) s':=by
 have sz1:s.heap.objs.size≤s1.heap.objs.size:=I.sz
 have hL:(envOfC qual scope s.heap.objs.size f cd).frame=some s.heap.objs.size:=rfl
 have fr':∀ b,b∈frs (envOfC qual scope s.heap.objs.size f cd::outer)→b=s.heap.objs.size∨b∈frs outer:=fun b hb=>by
  have hb:b∈s.heap.objs.size::frs outer:=hb
  exact List.mem_cons.mp hb
 have old:∀ b o,s.heap.get? b=some o→b < s.heap.objs.size:=fun b o q=>Heap.lt_size q
 have Lnot:∀ b,b < s.heap.objs.size→b∉frs outer→b∉frs (envOfC qual scope s.heap.objs.size f cd::outer):=fun b lt nf m=>by
  rcases fr' b m with z | z
  ·rw[z] at lt;exact Nat.lt_irrefl _ lt
  ·exact nf z
 have base1:Un (frs outer) [] H H1 s.heap s1.heap:=I.base
 have hfree:∀ b,b∈frs (envOfC qual scope s.heap.objs.size f cd::outer)→H' b=none:=fun b hb=>by
  have n1:H1 b=none:=by
   rcases fr' b hb with z | z
   ·subst z;exact I.free
   ·obtain⟨_,o,ho,_⟩:=I.ok.iR.mem z
    exact base1.free b o ho (I.ok.frf b z) (by simp)
  obtain⟨_,o,ho,_⟩:=ff.mem hb
  have:∃ o1,s1.heap.get? b=some o1:=by
   rcases fr' b hb with z | z
   ·obtain⟨m,⟨o1,_,_,ho1,_⟩,_⟩:=I.loc
    exact⟨o1,by rw[z];exact ho1⟩
   ·obtain⟨_,o,ho,_⟩:=I.ok.iR.mem z
    exact base1.there b o ho (by simp)
  obtain⟨o1,ho1⟩:=this
  exact un.free b o1 ho1 n1 (by simp)
 have sz2:s.heap.objs.size≤s'.heap.objs.size:=by
  obtain⟨m,⟨o1,_,_,ho1,_⟩,_⟩:=I.loc
  obtain⟨o2,ho2⟩:=un.there _ o1 ho1 (by simp)
  exact Nat.le_of_lt (Heap.lt_size (a:=s.heap.objs.size) ho2)
 refine x_ (n:=s.heap.objs.size) I.ok.frames ff hL sz2 (fun b hb=>hok.fresh hb) x' fun h' lv ex ff'=>⟨e,cls,dx,H',rfl,os.trans I.os,bare,?_,?_,ff'.2.2,ex,hE⟩
 ·have k1:∀ b o,s.heap.get? b=some o→H b=none→b∉frs outer→s'.heap.get? b=some o∧H' b=none:=fun b o q nn nf=>by
   have q1:=base1.keep b o q nn nf (by simp)
   have n1:=base1.free b o q nn (by simp)
   exact⟨un.keep b o q1 n1 (Lnot b (old b o q) nf) (by simp),un.free b o q1 n1 (by simp)⟩
  refine⟨fun b o q nn nf _=>?_,fun b o q nn hb _=>?_,fun b o q nn _=>?_,fun b o q _=>?_,fun b xs q=>un.tups b xs (base1.tups b xs q),fun b o u q=>un.frzs b o u (base1.frzs b o u q),fun b ps q=>?_⟩
  ·exact lv.keep b o (k1 b o q nn nf).1 (Lnot b (old b o q) nf) (.inl (old b o q))
  ·obtain⟨sl,q1⟩:=base1.slot b o q nn hb (by simp)
   have n1:=base1.free b o q nn (by simp)
   have hb':b∈frs (envOfC qual scope s.heap.objs.size f cd::outer):=List.mem_cons_of_mem s.heap.objs.size hb
   obtain⟨sl2,q2⟩:=un.slot b _ q1 n1 hb' (by simp)
   obtain⟨sl3,q3⟩:=lv.slot b _ q2 hb'
   exact⟨sl3,q3⟩
  ·obtain⟨o1,q1⟩:=base1.there b o q (by simp)
   exact un.free b o1 q1 (base1.free b o q nn (by simp)) (by simp)
  ·obtain⟨o1,q1⟩:=base1.there b o q (by simp)
   obtain⟨o2,q2⟩:=un.there b o1 q1 (by simp)
   exact lv.there b o2 q2
  ·obtain⟨m1,q1⟩:=base1.tbls b ps q
   obtain⟨m2,q2⟩:=un.tbls b _ q1
   exact⟨m1++m2,by rw[q2,Array.append_assoc]⟩
 ·intro b o q
  refine(hok b o q).j8 (fun c u hc g=>?_) (fun _ z=>z) fun _ _ z=>z
  have hn:H' c≠none:=by
   rcases hc with z | z
   ·rw[z,q];simp
   ·rw[z];simp
  exact lv.keep c u g (fun m=>hn (hfree c m)) (.inr hn)
theorem Ee {CX:CXT} {pins:List (Addr×Obj)} {σ:St} {H1 H':Hp} {s1 s':Shared} {e:Addr} {cls:Value} {dx:Option Addr} (I:Inv (jO (CX1 P w base) P w K mg base N qual scope f cd A outer s H E) pins σ H1 s1) (os:s'.os=s1.os) (bare:AllBare s'.gens)
  (un:Un (frs (envOfC qual scope s.heap.objs.size f cd::outer)) [] H1 H' s1.heap s'.heap) (hok:HOk P w H' s'.heap) (ff:s'.heap.FunFrames base (envOfC qual scope s.heap.objs.size f cd::outer)) (x:ExcAt s1.heap.objs.size H' s'.heap e cls dx) (hE:E cls dx H') :
  (jO (CX1 P w base) P w K mg base N qual scope f cd A outer s H E).xe (.ref e) s':=by
 have sz1:s.heap.objs.size≤s1.heap.objs.size:=I.sz
 have x':ExcAt s.heap.objs.size H' s'.heap e cls dx:=by
  obtain⟨ge,fr,oe,vs,h1,h2,h3,h4,h5,tb⟩:=x
  refine⟨Nat.le_trans sz1 ge,fr,oe,vs,h1,h2,h3,h4,h5,tb.imp id ?_⟩
  rintro⟨T,oT,ts,a1,a2,a3⟩
  exact⟨T,oT,ts,a1,Nat.le_trans sz1 a2,a3⟩
 exact wx (CX:=CX) I os bare un hok ff x' hE
theorem xD:Passes (CX1 P w base) (jO (CX1 P w base) P w K mg base N qual scope f cd A outer s H E) E:=fun pins σ H1 s1 ev s' I h=>by
 obtain⟨e,cls,dx,H',rfl,os,bare,un,hok,ff,x,hE⟩:=h
 exact Ee (CX:=CX0) I os bare un hok ff x hE
end
end L2
namespace L2
open PySem PySem.Spec PyProof.Rows PySem.W
def fj (K:Frag) (C:Addr) (B newId:String):Bool:=match K.lookup C with
 | some ⟨oc,_,.cls cd,sl⟩=>oc == .type "type" && !cd.hasDel && (sl.toList[4]?).join == some (.builtin newId) && !cd.mro.isEmpty && cd.mro.contains (.ref C) && cd.mro.contains (.type B) && !cd.mro.contains (.type "AttributeError") && !cd.mro.contains (.type "NameError") &&
   cd.mro.contains (.type "BaseException") && specialIn K (.ref C) "__call__" == some (some (.builtin "type.__call__")) && instIn K (.ref C) (.type "type") == some true
 | _=>false
structure dG (M:Model) (h:Heap) (C:Addr) (B newId:String):Prop where
 obj:∃ oc od cd sl,h.get? C=some ⟨oc,od,.cls cd,sl⟩∧oc=.type "type"∧cd.hasDel=false∧cd.mro.isEmpty=false
 made:Looks M h (Bind.madeBy (.ref C)) (some newId)
 base:Looks M h (Bind.staticBase (.ref C)) (.ref C)
 under:∀ b r,(b,r)∈[(Value.ref C,true),(.type B,true),(.type "BaseException",true),(.type "AttributeError",false),(.type "NameError",false)]→Looks M h (isSubtype (.ref C) b) r
 dunder:Looks M h (specialOf (.ref C) ("__call__":Str)) (some (Value.builtin "type.__call__"))
 isTy:Looks M h (isInstance (.ref C) (.type "type")) true
theorem lg {K:Frag} {M:Model} {h:Heap} (X:K.In h) {C:Addr} {B newId:String} (e:fj K C B newId=true):dG M h C B newId:=by
 unfold fj at e
 split at e
 case h_2=>cases e
 rename_i oc od cd sl ho
 rw[Bool.and_eq_true,Bool.and_eq_true,Bool.and_eq_true,Bool.and_eq_true,Bool.and_eq_true,Bool.and_eq_true,Bool.and_eq_true,Bool.and_eq_true,Bool.and_eq_true,Bool.and_eq_true] at e
 obtain⟨⟨⟨⟨⟨⟨⟨⟨⟨⟨e1,e2⟩,e3⟩,e4⟩,e5⟩,e6⟩,eA⟩,eN⟩,eB⟩,e7⟩,e8⟩:=e
 have full:cd.mro.isEmpty=false:=by simpa using e4
 have there:clsIn K C=some cd:=by unfold clsIn;rw[ho]
 have line:Looks M h (mroOf (.ref C)) cd.mro:=Looks.andThen (looks_clsIn X there) .now
 have four:sl[4]?.join=some (.builtin newId):=by simpa using e3
 have maker:Looks M h (Bind.madeBy (.ref C)) (some newId):=fun A Q E s k q=>by
  have hC:=k C _ (X C _ ho)
  obtain⟨h2,g,d,t,os⟩:=s
  unfold Bind.madeBy
  refine wpAny_bind (line A _ E _ k ?_)
  match hm:cd.mro with
  | []=>rw[hm] at full;cases full
  | c::l=>
   rw[List.forIn_cons]
   have slot:∀ {Q':Option Value→Shared→Prop},Q' (some (.builtin newId)) ⟨h2,g,d,t,os⟩→wpAny M A (slotAt C 4) Q' E ⟨h2,g,d,t,os⟩:=fun {Q'} z=>by
    rw[← four] at z
    exact wpAny_bind (wpAny_loadPart_at hC (wpAny_pure z))
   refine wpAny_bind (wpAny_bind (wpAny_bind (slot ?_)))
   repeat (with_reducible refine wpAny_pure ?_)
   exact q
 have stat:Looks M h (Bind.staticBase (.ref C)) (.ref C):=fun A Q E s k q=>by
  unfold Bind.staticBase
  refine wpAny_bind (line A _ E s k ?_)
  match hm:cd.mro with
  | []=>rw[hm] at full;cases full
  | c::l=>
   rw[List.forIn_cons]
   refine wpAny_bind (wpAny_bind (wpAny_bind (maker A _ E s k ?_)))
   rw[if_pos (show (some newId).isSome=true from rfl)]
   repeat (with_reducible refine wpAny_pure ?_)
   exact q
 have sub:∀ b r,cd.mro.contains b=r→Looks M h (isSubtype (.ref C) b) r:=fun b r q=>looks_mroIn X (by rw[mroIn,there,Option.bind_some,full,q];rfl)
 refine⟨⟨oc,od,cd,sl,X C _ ho,by simpa using e1,by simpa using e2,full⟩,maker,stat,fun b r hb=>sub b r ?_,looks_specialIn X (by simpa using e7),looks_instIn X (by simpa using e8)⟩
 simp only[List.mem_cons,Prod.mk.injEq,List.not_mem_nil,or_false] at hb
 rcases hb with ⟨rfl,rfl⟩ | ⟨rfl,rfl⟩ | ⟨rfl,rfl⟩ | ⟨rfl,rfl⟩ | ⟨rfl,rfl⟩
 ·exact e5
 ·exact e6
 ·exact eB
 ·simpa using eA
 ·simpa using eN
theorem dG.self {M:Model} {h:Heap} {C:Addr} {B newId:String} (y:dG M h C B newId):Looks M h (isSubtype (.ref C) (.ref C)) true:=y.under _ _ (by simp)
theorem dG.top {M:Model} {h:Heap} {C:Addr} {B newId:String} (y:dG M h C B newId):Looks M h (isSubtype (.ref C) (.type B)) true:=y.under _ _ (by simp)
theorem dG.exc {M:Model} {h:Heap} {C:Addr} {B newId:String} (y:dG M h C B newId):Looks M h (isSubtype (.ref C) (.type "BaseException")) true:=y.under _ _ (by simp)
theorem dG.noA {M:Model} {h:Heap} {C:Addr} {B newId:String} (y:dG M h C B newId):Looks M h (isSubtype (.ref C) (.type "AttributeError")) false:=y.under _ _ (by simp)
theorem dG.noN {M:Model} {h:Heap} {C:Addr} {B newId:String} (y:dG M h C B newId):Looks M h (isSubtype (.ref C) (.type "NameError")) false:=y.under _ _ (by simp)
abbrev eZ (vs:List Value):Obj:={ cls:=.type "tuple",data:=.seq vs.toArray }
abbrev iw (C t:Addr):Obj:={ cls:=.ref C,data:=.fields #[.ref t,.none,.none,.none,.bool false,.none] }
theorem Eg (C:Addr) (rest:List Value):Bind.checkArgs "ValueError.__new__" ⟨.any,"ValueError","ValueError",.cls,[⟨"args",.varPos,false⟩,⟨"kwargs",.varKw,false⟩]⟩ ⟨.ref C::rest,[]⟩=pure ():=by kernel_rfl
section
variable {prog:Program} {w:World} {A:Around} {K:Frag} {C:Addr} {R:Result→Shared→Prop} {h:Heap} {g:Array GenState} {d:Drawn} {t:Nat} {os:OsState}
theorem Gx {rest:List Value} (Y:dG (model prog w) h C "ValueError" "ValueError.__new__") (hz:rest.length≤sizeLine)
  (hq:R (.ok (.ret (.ref (h.objs.size + 1)))) ⟨(h.push (eZ rest)).push (iw C h.objs.size),g,d,t,os⟩) :
  codeAny (model prog w) A (.call (.builtin "ValueError.__new__") ⟨.ref C::rest,[]⟩) R ⟨h,g,d,t,os⟩:=by
 have top:=Y.top
 have noA:=Y.noA
 have noN:=Y.noN
 have self:=Y.self
 obtain⟨⟨oc,od,cd,sl,hC,e1,e2,e4⟩,made,base,_,dunder,isTy⟩:=Y
 have F:=PySem.F.excBase_ValueError
 have hends:=F.ends
 have here:Looks (model prog w) h (Bind.madeHere "ValueError.__new__" (.ref C)) ():=base.andThen (made.andThen (Looks.of_pure (by simp only[Option.map_some,bne_self_eq_false,Bool.false_eq_true,if_false])))
 have here2:Looks (model prog w) h (Bind.madeHere "BaseException.__new__" (.ref C)) ():=base.andThen (made.andThen (Looks.of_pure (by simp only[Option.map_some,F.canon,bne_self_eq_false,Bool.false_eq_true,if_false])))
 have calm:(Code.builtin "ValueError.__new__" ⟨.ref C::rest,[]⟩).quiet=true:=Code.quiet_builtin _ F.quiet
 refine codeAny_call_builtin_code calm ?_
 unfold checkBuiltinCall
 simp only[F.newRow,F.newSplit,F.newKind,Eg]
 repeat (first | lk | simp only[bne_self_eq_false,if_false,Bool.false_eq_true])
 refine codeAny_builtinAt F.entry ?_
 unfold Builtin.«BaseException.__new__»
 refine PySem.wpAt_bind ?_
 show PySem.wpAt _ _ _ (stack >>= _) _ _ _
 refine PySem.wpAt_bind (PySem.wpAt_stack fun p below=>PySem.wpAt_of_wpAny ?_)
 wp_walk
 refine PySem.wpAt_of_wpAny ?_
 rw[F.owner]
 repeat (first | simp only[bne_self_eq_false,Bool.false_eq_true,if_false] | lk | wp_step)
 refine wpAny_load (Heap.get?_push_of_some _ (Heap.get?_push_of_some _ hC)) ?_
 dsimp only
 rw[e2]
 refine wpAny_pure ?_
 rw[if_neg (by decide)]
 refine wpAny_pure (wpAny_pure ?_)
 show R _ _
 rw[Heap.size_push]
 exact hq
theorem sG {rest:List Value} {init:Value} (Y:dG (model prog w) h C "ValueError" "ValueError.__new__") (hz:rest.length≤sizeLine) (hi:Looks (model prog w) h (typeLookup (.ref C) "__init__") (some init))
  (hb:∀ self,Looks (model prog w) h (bindSpecial init self) (init,[self]))
  (hq:codeAny (model prog w) (A.under (.builtin "type.__call__" ⟨.ref C::rest,[]⟩)) (.call init ⟨.ref (h.objs.size + 1)::rest,[]⟩) (InitBack (h.objs.size + 1) R) ⟨(h.push (eZ rest)).push (iw C h.objs.size),g,d,t,os⟩) :
  codeAny (model prog w) A (.call (.ref C) ⟨rest,[]⟩) R ⟨h,g,d,t,os⟩:=by
 have Y':=Y
 have self:=Y.self
 obtain⟨⟨oc,od,cd,sl,hC,e1,e2,e4⟩,made,base,_,dunder,isTy⟩:=Y
 refine codeAny_of_tree ?_
 show wpAny _ _ (callAny (.ref C) _) _ _ _
 refine nd_load hC ?_
 show wpAny _ _ (callAny.viaDunder (.ref C) _) _ _ _
 unfold callAny.viaDunder
 refine wpAny_bind (dunder.at ?_)
 dsimp only
 rw[tc_bind]
 refine wpAny_bind (wpAny_pure (wpAny_bind (wpAny_pure ?_)))
 refine wpAny_pure (a:=Fin.again (.call (.builtin "type.__call__") ⟨.ref C::rest,[]⟩)) (And.intro rfl ?_)
 have calm:(Code.builtin "type.__call__" ⟨.ref C::rest,[]⟩).quiet=true:=Code.quiet_builtin _ (by decide +kernel)
 refine codeAny_call_builtin_at calm entry_typeCall (check_slot tc_kind tc_split isTy (tc_args _ _ _) ?_)
 unfold Builtin.«type.__call__»
 have line:Looks (model prog w) h (mroOf (.ref C)) cd.mro:=Looks.andThen (Looks.andThen (Looks.ld (part:=none) hC) .now) .now
 repeat (first | with_reducible refine wpAny_call ?_ | lk | simp only[Bool.false_eq_true,if_false,e4])
 refine Gx Y' hz ?_
 have k:∀ b o,h.get? b=some o→((h.push (eZ rest)).push (iw C h.objs.size)).get? b=some o:=fun b o e=>Heap.get?_push_of_some _ (Heap.get?_push_of_some _ e)
 have hx:((h.push (eZ rest)).push (iw C h.objs.size)).get? (h.objs.size + 1)=some (iw C h.objs.size):=by heap_get
 have t1:Looks (model prog w) ((h.push (eZ rest)).push (iw C h.objs.size)) (typeOf (.ref (h.objs.size + 1))) (.ref C):=(Looks.ld hx).andThen .now
 have s1:=self.keeps k
 have i1:=hi.keeps k
 have b1:=(hb (.ref (h.objs.size + 1))).keeps k
 unfold isInstance callSpecial? specialOf
 repeat (first | with_reducible refine wpAny_call ?_ | lk)
 refine codeAny_mono hq fun r s' z=>?_
 cases r with
 | error e=>exact z
 | ok fl=>
  cases fl with
  | ret v=>
   obtain⟨hv,z2⟩:=z
   subst hv
   exact wpAny_pure (wpAny_pure z2)
  | next=>exact z.elim
  | brk=>exact z.elim
  | cont=>exact z.elim
theorem vm {s:Shared} {f:Addr} {vs:List Value} (X:K.In s.heap) (hm:fj K C "ValueError" "ValueError.__new__"=true) (hz:vs.length≤sizeLine)
  (hi:findIn K (.ref C) "__init__"=some (some (.ref f))) (hf:typeIn K (.ref f)=some (.type "function"))
  (h:codeAny (model prog w) (A.under (.builtin "type.__call__" ⟨.ref C::vs,[]⟩)) (.call (.ref f) ⟨.ref (s.heap.objs.size + 1)::vs,[]⟩) (InitBack (s.heap.objs.size + 1) R)
   { s with heap:=(s.heap.push (eZ vs)).push (iw C s.heap.objs.size) }) :
  codeAny (model prog w) A (.call (.ref C) ⟨vs,[]⟩) R s:=by
 obtain⟨hh,g,d,t,os⟩:=s
 exact sG (lg X hm) hz (looks_findIn X hi) (fun self=>bind_fn X self hf) h
end
end L2
namespace L2
open PySem PySem.Spec PyProof.Rows
def dJ (e C:Addr) (dx:Option Addr):HO:=HO.ext fun h=>∃ t,h.get? e=some { cls:=.ref C,dict:=dx,data:=.fields #[.ref t,.none,.none,.none,.bool false,.none] }
def del (H:Hp) (a:Addr):Hp:=fun b=>if b=a then none else H b
theorem kY {H:Hp} {a:Addr}:del H a a=none:=by unfold del;rw[if_pos rfl]
theorem ix {H:Hp} {a b:Addr} (h:b≠a):del H a b=H b:=by unfold del;rw[if_neg h]
theorem qC {P:Program} {w:World} {H:Hp} {h:Heap} {e C t:Addr} {dx:Option Addr} (q:h.get? e=some { cls:=.ref C,dict:=dx,data:=.fields #[.ref t,.none,.none,.none,.bool false,.none] }):bX P w H h e (dJ e C dx):=
 ⟨⟨t,q⟩,⟨_,q⟩,fun _ _ ⟨t,q⟩ k=>⟨t,k _ q⟩⟩
theorem jt {P:Program} {w:World} {H:Hp} {h:Heap} {e C:Addr} {dx:Option Addr} (ok:HOk P w H h) (q:H e=some (dJ e C dx)):∃ t,h.get? e=some { cls:=.ref C,dict:=dx,data:=.fields #[.ref t,.none,.none,.none,.bool false,.none] }:=
 (show bX P w H h e (dJ e C dx) from ok e _ q).1
theorem HOk.del {P:Program} {w:World} {H:Hp} {h:Heap} {e C:Addr} {dx:Option Addr} (ok:HOk P w H h) (q:H e=some (dJ e C dx)):HOk P w (del H e) h:=fun b u hb=>by
 have ne:b≠e:=fun z=>by rw[z,kY] at hb;cases hb
 rw[ix ne] at hb
 refine(ok b u hb).j8 (fun _ _ _ r=>r) (fun c r=>?_) (fun c xs r=>?_) fun c o φ r=>?_
 ·rw[ix (oY r q (by intro z;cases z))];exact r
 ·rw[ix (oY r q (by intro z;cases z))];exact r
 ·rw[ix (oY r q (by intro z;cases z))];exact r
theorem Un.del {fs:List Addr} {H:Hp} {h:Heap} {e C:Addr} {dx:Option Addr} (q:H e=some (dJ e C dx)):Un fs [] H (del H e) h h where
 keep:=fun b o g _ _ _=>g
 slot:=fun b o g _ _ _=>⟨o.slots,g⟩
 free:=fun b o g n _=>by
  by_cases z:b=e
  ·rw[z,kY]
  ·rw[ix z];exact n
 there:=fun b o g _=>⟨o,g⟩
 tups:=fun b xs r=>by rw[ix (oY r q (by intro z;cases z))];exact r
 frzs:=fun b o u r=>by rw[ix (oY r q (by intro z;cases z))];exact r
 tbls:=fun b ps r=>⟨#[],by rw[ix (oY r q (by intro z;cases z)),Array.append_empty];exact r⟩
section
variable {P:Program} {w:World} {K:PySem.W.Frag} {mg:Str→Option Value} {base:Heap} {N:List Str} {qual:Str} {scope:Scope} {f:Addr} {cd:Value} {A:Around} {outer:List Env} {s:Shared} {H:Hp} {E:XK}
theorem Ef {pins:List (Addr×Obj)} {σ:St} {H2:Hp} {s':Shared} {e C:Addr} {dx:Option Addr} (I:Inv (jO (CX1 P w base) P w K mg base N qual scope f cd A outer s H E) pins σ H2 s')
  (ge:s.heap.objs.size≤e) (q:H2 e=some (dJ e C dx)) (hE:E (.ref C) dx (del H2 e)):(jO (CX1 P w base) P w K mg base N qual scope f cd A outer s H E).xe (.ref e) s':=by
 obtain⟨t,g⟩:=jt I.hok q
 refine wx (CX:=CX0) I rfl I.bare (Un.del q) (HOk.del I.hok q) ?_ ⟨ge,kY,_,_,g,rfl,rfl,rfl,(show 1 < 6 by decide),.inl rfl⟩ hE
 exact I.stack
end
def Raises (X:Cx) (E:XK):Prop:=∀ (pins:List (Addr×Obj)) (σ:St) (H2:Hp) (s':Shared) (e C:Addr) (dx:Option Addr),Inv X pins σ H2 s'→X.s₀.heap.objs.size≤e→H2 e=some (dJ e C dx)→E (.ref C) dx (del H2 e)→X.xe (.ref e) s'
theorem p_ {P:Program} {w:World} {K:PySem.W.Frag} {mg:Str→Option Value} {base:Heap} {N:List Str} {qual:Str} {scope:Scope} {f:Addr} {cd:Value} {A:Around} {outer:List Env} {s:Shared} {H:Hp} {E:XK} :
  Raises (jO (CX1 P w base) P w K mg base N qual scope f cd A outer s H E) E:=fun _ _ _ _ _ _ _ I ge q hE=>Ef I ge q hE
structure XMk (K:PySem.W.Frag) (C f:Addr):Prop where
 makes:fj K C "ValueError" "ValueError.__new__"=true
 init:PySem.W.findIn K (.ref C) "__init__"=some (some (.ref f))
 fn:PySem.W.isFn K (.ref f)=true
 kp:PySem.W.keepIn K (.ref C)=true
section
variable {X:Cx} {CX:CXT} {k:Nat} {f C:Addr} {fd:FuncData} {ps:List Str} {sp:Sp} {dvs:List V} {ds:List Value} {E E':XK} {x m:Str} {p pos apos cpos:Pos} {e o:Expr} {es:List Expr} {ta:TE} {t:TA}
theorem vy {pins:List (Addr×Obj)} {σ:St} {H:Hp} {s:Shared} {Q:Addr→Hp→Prop} {us:List Value} {vs:List V} (M:XMk X.K C f) (F:aM X.prog X.w X.K X.mg X.base CX k f fd ps sp) (hr:bO (k + 1) X.A) (hb:Binds X.K fd ps ds) (hd:Vals dvs ds)
  (hx:Passes CX X E') (hz:ps.length≤sizeLine) (I:Inv X pins σ H s) (r:Vals vs us)
  (h:∀ x,H x=none→sp (.ref x::(vs++dvs)) (upd H x (dJ x C none)) (fun v H2=>v=.non∧Q x H2) E') :
  wpAny (model X.prog X.w) X.A (call (.ref C) us) (fun u s'=>∃ e H',u=.ref e∧X.s₀.heap.objs.size≤e∧Inv X pins σ H' s'∧Q e H') X.xe s:=by
 have hq:=h (s.heap.objs.size + 1) (I.hok.fresh (Nat.le_succ _))
 have I1:=I.kept (t':=s.toks) (h':=s.heap.push (eZ us)) fun b u e=>Heap.get?_push_of_some _ e
 have I2:Inv X pins σ (upd H (s.heap.objs.size + 1) (dJ (s.heap.objs.size + 1) C none)) { s with heap:=(s.heap.push (eZ us)).push (iw C s.heap.objs.size),toks:=s.toks }:=
  I1.laid (t':=s.toks) (h':=(s.heap.push (eZ us)).push (iw C s.heap.objs.size)) (a:=s.heap.objs.size + 1) (fun b u e=>Heap.get?_push_of_some _ e) (by rw[Heap.size_push];exact Nat.le_refl _)
   (qC (t:=s.heap.objs.size) (by heap_get))
 have r2:Vals (V.ref (s.heap.objs.size + 1)::(vs++dvs)) (Value.ref (s.heap.objs.size + 1)::(us++ds)):=.cons rfl (r.append hd)
 have hl:(Value.ref (s.heap.objs.size + 1)::us++ds).length=ps.length:=by
  have e:=r2.length
  rw[F.len _ _ _ _ hq] at e
  exact e.symm
 have hz':us.length≤sizeLine:=by
  simp only[List.cons_append,List.length_cons,List.length_append] at hl
  omega
 refine wpAny_call (vm (f:=f) I.kIn M.makes hz' M.init (beq_iff_eq.mp M.fn) (codeAny_mono (F.run _ X.stack _ _ ⟨Value.ref (s.heap.objs.size + 1)::us,[]⟩ (Value.ref (s.heap.objs.size + 1)::(us++ds)) _ _ E' (hr.make C us [])
  (I2.DU.make C us []) (hb _ (Value.ref (s.heap.objs.size + 1)::us) I2.kIn hl) r2 hq) fun r s' hq'=>?_))
 cases r with
 | error e=>exact hx pins σ _ _ e s' I2 hq'
 | ok fl=>
  cases fl with
  | ret u=>
   obtain⟨v,H',I3,rv,ev,q3⟩:=I2.after hq'
   subst ev
   exact⟨rv,s.heap.objs.size + 1,H',rfl,Nat.le_trans I.sz (Nat.le_succ _),I3,q3⟩
  | next=>exact False.elim hq'
  | brk=>exact False.elim hq'
  | cont=>exact False.elim hq'
def sO (C:Addr) (sp:Sp) (dvs:List V) (E' E:XK) (t:TA):TS:=fun _ σ H=>t σ H fun vs H1=>∀ x,H1 x=none→sp (.ref x::(vs++dvs)) (upd H1 x (dJ x C none)) (fun v H2=>v=.non∧∃ dx,H2 x=some (dJ x C dx)∧E (.ref C) dx (del H2 x)) E'
theorem xj (M:XMk X.K C f) (F:aM X.prog X.w X.K X.mg X.base CX k f fd ps sp) (hr:bO (k + 1) X.A) (hg:Gl X x) (hm:X.mg x=some (.ref C)) (hb:Binds X.K fd ps ds) (hd:Vals dvs ds) (hx:Passes CX X E') (hR:Raises X E) (hz:ps.length≤sizeLine)
  (ha:PA X (e::es) t) (hdb:(x == ("__debug__":Str))=false:=by decide) (he:starEach (e::es) X.env=(false,eval e X.env)::starEach es X.env:=by rfl) (hpl:(backTo cpos (starEach es X.env)).any (·.1)=false:=by rfl) :
  PS X (.Raise (some (.Call (.Name x p) (e::es) [] cpos)) none pos) (sO C sp dvs E' E t):=by
 intro pins s σ H D I h
 rw[arm_exec_Raise]
 simp only[evalOpt,Option.map]
 refine wpAny_bind (wpAny_standAt ?_)
 unfold raiseStmt
 dsimp only
 refine wpAny_bind (thn (Q:=fun u s'=>∃ e H' dx,u=.ref e∧X.s₀.heap.objs.size≤e∧Inv X pins σ H' s'∧H' e=some (dJ e C dx)∧E (.ref C) dx (del H' e)) ?_ fun u s1 hu=>?_)
 ·refine wpAny_bind (thn (Q:=fun u s'=>∃ e H' dx,u=.ref e∧X.s₀.heap.objs.size≤e∧Inv X pins σ H' s'∧H' e=some (dJ e C dx)∧E (.ref C) dx (del H' e)) ?_ fun u s1 hu=>wpAny_bind (wpAny_standAt (wpAny_pure hu)))
  refine wpAny_Call_Name_kw (gz I hg hm ?_ hdb)
  refine PySem.W.callWith_K (h₀:=X.base) I.ok.mod.kin M.kp (thn (ha cpos pins s σ H _ I h) fun us s1 ⟨vs,H1,I1,r,q⟩=>⟨I1.kIn,?_⟩) he hpl
  refine thn (vy (Q:=fun e H2=>∃ dx,H2 e=some (dJ e C dx)∧E (.ref C) dx (del H2 e)) M F hr hb hd hx hz I1 r q) fun u s' ⟨e,H',a1,a2,a3,dx,a4,a5⟩=>⟨e,H',dx,a1,a2,a3,a4,a5⟩
 ·obtain⟨e,H',dx,rfl,ge,I',q,hE⟩:=hu
  obtain⟨tt,g⟩:=jt I'.hok q
  have Y:=lg (M:=model X.prog X.w) I'.kIn M.makes
  have exc:=Y.exc
  obtain⟨⟨oc,od,cd,sl,hC,rfl,e2,e4⟩,made,base,_,dunder,isTy⟩:=Y
  have f1:PySem.W.Looks (model X.prog X.w) s1.heap (typeOf (.ref e)) (.ref C):=(PySem.W.Looks.ld g).andThen .now
  have done:X.xe (.ref e) s1:=hR pins σ H' s1 e C dx I' ge q hE
  have hh:=hr.hd
  obtain⟨hp,gg,dd,tk,os⟩:=s1
  repeat (first | with_reducible exact wpAny_raiseNew_none hh done | lk | with_reducible refine wpAny_loadPart_at g ?_ | wp_step)
end
end L2
namespace L2
open PySem PySem.Spec PyProof.Rows
open Builtin Builtin.ObjectAttr
def lh:List Value→Bool
 | .ref _::r=>lh r
 | l=>l == [.type "ValueError",.type "Exception",.type "BaseException",.type "object"]
theorem sU (self:Value):refuseLoop self "__setattr__" [.type "ValueError",.type "Exception",.type "BaseException",.type "object"]=pure ():=by kernel_rfl
theorem oJ (self:Value):∀ {l:List Value},lh l=true→refuseLoop self "__setattr__" l=pure ()
 | [],e=>by cases beq_iff_eq.mp (show ([] == [Value.type "ValueError",.type "Exception",.type "BaseException",.type "object"])=true from e)
 | x::r,e=>by
  cases x with
  | ref c=>rw[refuseLoop_ref];exact oJ self (l:=r) e
  | type n=>rw[beq_iff_eq.mp (show ((Value.type n::r) == [Value.type "ValueError",.type "Exception",.type "BaseException",.type "object"])=true from e)];exact sU self
  | _=>cases (List.cons.inj (beq_iff_eq.mp e)).1
theorem sI:∀ {l:List Value},lh l=true→l.contains (.type "object")=true
 | [],e=>by cases beq_iff_eq.mp (show ([] == [Value.type "ValueError",.type "Exception",.type "BaseException",.type "object"])=true from e)
 | x::r,e=>by
  cases x with
  | ref c=>rw[List.contains_cons,sI (l:=r) e,Bool.or_true]
  | type n=>rw[beq_iff_eq.mp (show ((Value.type n::r) == [Value.type "ValueError",.type "Exception",.type "BaseException",.type "object"])=true from e)];decide +kernel
  | _=>cases (List.cons.inj (beq_iff_eq.mp e)).1
theorem zq {l:List Value} (h:lh l=true):l.isEmpty=false:=by
 match l with
 | []=>cases sI h
 | _::_=>rfl
abbrev FD (prog:Program) (w:World) (A:Around) (R:Result→Shared→Prop) (fin:PySem.Fin) (s1:Shared):Prop:=match fin with
 | .done fl=>R (.ok fl) s1
 | .again nxt=>nxt.quiet=true∧codeAny (model prog w) A nxt R s1
structure tW (K:PySem.W.Frag) (C:Addr):Prop where
 hd:PySem.W.hasDictIn K C=true
 po:(PySem.W.clsIn K C).any (fun cd=>lh cd.mro)=true
 sa:PySem.W.findIn K (.ref C) "__setattr__"=some (some (.builtin "object.__setattr__"))
section
variable {prog:Program} {w:World} {A:Around} {E:Value→Shared→Prop} {s:Shared} {K:PySem.W.Frag} {e C:Addr} {name:Str} {v:Value} {R:Result→Shared→Prop}
open PySem.W in
theorem oz {ox:Obj} {od:Option Obj} {tk:Tok} {r:Option Value} (X:K.In s.heap) (I:InstAt s.heap e ox C od) (c:tW K C) (ht:takerIn K C name=some none)
  (h:∀ b,wpAny (model prog w) A.in1 (storeInOwnDict (.ref e) (.ref C) (.str name tk) name v b) (FD prog w A R) (fun x s1=>R (.error x) s1) s) :
  codeAny (model prog w) A (.call (.builtin "object.__setattr__") ⟨[.ref e,.str name tk,v],[]⟩) R s:=by
 have SF:=PySem.F.store_object
 obtain⟨cd,hc,ho⟩:=any_some c.po
 have line:Looks (model prog w) s.heap (mroOf (.ref C)) cd.mro:=Looks.andThen (looks_clsIn X hc) .now
 have thing:mroIn K C (.type "object")=some true:=by rw[mroIn,hc,Option.bind_some,zq ho,sI ho];rfl
 have inst:Looks (model prog w) s.heap (isInstance (.ref e) (.type "object")) true:=I.type.andThen (looks_mroIn X thing)
 refine codeAny_call_builtin SF.slot.plain SF.entry ?_
 refine check_slot (i:="object.__setattr__") (owner:="object") (n:="__setattr__") (rest:=[.str name tk,v]) (kw:=[]) SF.kind SF.split inst (SF.args (.ref e) (.str name tk) v) ?_
 obtain⟨attr,ha,hr⟩:=Option.bind_eq_some_iff.mp ht
 have free:Looks (model prog w) s.heap (storeTaker? attr) none:=by
  match attr,hr with
  | none,_=>exact .now
  | some a,hr=>
   obtain⟨t,hb,eb⟩:=Option.map_eq_some_iff.mp hr
   match t,eb with
   | false,_=>exact(looks_takesIn X hb).andThen .now
 rw[osa_eq,refuse_eq]
 refine wpAny_bind ?_
 refine wpAny_bind (I.type.here ?_)
 refine wpAny_bind (line.here ?_)
 rw[oJ _ ho]
 refine wpAny_pure ?_
 refine wpAny_bind (I.type.here ?_)
 refine wpAny_bind ((looks_findIn X ha).here ?_)
 exact wpAny_bind (free.here (h _))
theorem wo {vs:Array Value} {Q:Unit→Shared→Prop} (X:K.In s.heap) (g:s.heap.get? e=some { cls:=.ref C,data:=.fields vs }) (c:tW K C) (ht:PySem.W.takerIn K C name=some none)
  (h:∀ h' tk,h'.get? e=some { cls:=.ref C,dict:=some s.heap.objs.size,data:=.fields vs }→h'.Ns1 s.heap.objs.size (fun y=>if y=name then some v else none)→(∀ b o,b≠e→s.heap.get? b=some o→h'.get? b=some o)→
   Q () { s with heap:=h',toks:=tk }):wpAny (model prog w) A (setAttr (.ref e) name v) Q E s:=by
 have I:PySem.W.InstAt s.heap e { cls:=.ref C,data:=.fields vs } C none:=⟨g,rfl,rfl,True.intro⟩
 refine PySem.W.set_plain X I c.sa (oz (s:={ s with toks:=s.toks + 1 }) (r:=none) X I c ht fun b=>?_)
 obtain⟨cd,hc,hd'⟩:=PySem.W.any_some c.hd
 have hes:e≠s.heap.objs.size:=Nat.ne_of_lt (Heap.lt_size g)
 refine wpAny_bind (wpAny_pure (wpAny_bind (wpAny_bind (wpAny_loadPart (s:={ s with toks:=s.toks + 1 }) g (wpAny_bind (PySem.W.Looks.here (s:={ s with toks:=s.toks + 1 }) (PySem.W.looks_clsIn X hc) ?_))))))
 rw[hd']
 have g1:(s.heap.push PySem.W.emptyDict).get? e=some { cls:=.ref C,data:=.fields vs }:=Heap.get?_push_of_some _ g
 refine wpAny_bind (wpAny_alloc (wpAny_bind (wpAny_update g1 ?_)))
 refine wpAny_pure (a:=some s.heap.objs.size) ?_
 have gd:((s.heap.push PySem.W.emptyDict).update e fun o=>{ o with dict:=some s.heap.objs.size }).get? s.heap.objs.size=some PySem.W.emptyDict:=(Heap.get?_update_ne _ _ _ _ hes.symm).trans (Heap.get?_push_at rfl rfl)
 have nd:((s.heap.push PySem.W.emptyDict).update e fun o=>{ o with dict:=some s.heap.objs.size }).Ns s.heap.objs.size (fun _=>none):=⟨_,#[],_,gd,rfl,fun e he=>absurd he (by simp),fun _=>rfl⟩
 have g2:((s.heap.push PySem.W.emptyDict).update e fun o=>{ o with dict:=some s.heap.objs.size }).get? e=some { cls:=.ref C,dict:=some s.heap.objs.size,data:=.fields vs }:=Heap.get?_update_self _ g1 rfl
 show wpAny _ _ (storeInDict s.heap.objs.size (.str name s.toks) name v) _ _ { s with heap:=((s.heap.push PySem.W.emptyDict).update e fun o=>{ o with dict:=some s.heap.objs.size }),toks:=s.toks + 1 }
 unfold storeInDict newKeyGuard
 refine wpAny_bind (wpAny_pure (wpAny_bind (wpAny_nsSet1 (s:={ s with heap:=((s.heap.push PySem.W.emptyDict).update e fun o=>{ o with dict:=some s.heap.objs.size }),toks:=s.toks + 1 }) (Heap.Ns1.of_empty nd) fun h' hn2 hs2=>?_)))
 obtain⟨oD,esD,epD,hoD,hdD,hcD⟩:=hn2.count (PySem.Within.cons name v PySem.Within.nil)
 have few:esD.size≤sizeLine:=Nat.le_trans hcD (show 1≤sizeLine by rw[sizeLine_eq];decide)
 refine wpAny_bind (wpAny_lookBehind hoD (hdD ▸ pastItsLine_dict (Nat.le_succ_of_le few)) ?_)
 exact wpAny_pure (h h' _ ((hs2.2 e hes).trans g2) hn2 fun b o hb q=>(hs2.2 b (Nat.ne_of_lt (Heap.lt_size q))).trans ((Heap.get?_update_ne _ _ _ _ hb).trans (Heap.get?_push_of_some _ q)))
theorem wm {vs:Array Value} {dx:Addr} {mA:Str→Option Value} {ns:List Str} {Q:Unit→Shared→Prop} (X:K.In s.heap) (g:s.heap.get? e=some { cls:=.ref C,dict:=some dx,data:=.fields vs }) (n:s.heap.Ns1 dx mA) (ne:dx≠e) (c:tW K C) (ht:PySem.W.takerIn K C name=some none)
  (hw:PySem.Within mA ns) (hsz:ns.length + 1≤sizeLine)
  (h:∀ h' tk,h'.get? e=some { cls:=.ref C,dict:=some dx,data:=.fields vs }→h'.Ns1 dx (fun y=>if y=name then some v else mA y)→Heap.SameBut dx s.heap h'→Q () { s with heap:=h',toks:=tk }):wpAny (model prog w) A (setAttr (.ref e) name v) Q E s:=by
 obtain⟨od,ho,_⟩:=jI n
 have I:PySem.W.InstAt s.heap e { cls:=.ref C,dict:=some dx,data:=.fields vs } C (some od):=⟨g,rfl,rfl,ho⟩
 refine PySem.W.set_plain X I c.sa (oz (s:={ s with toks:=s.toks + 1 }) (r:=none) X I c ht fun b=>?_)
 obtain⟨cd,hc,hd'⟩:=PySem.W.any_some c.hd
 refine wpAny_bind (wpAny_pure (wpAny_bind (wpAny_bind (wpAny_loadPart (s:={ s with toks:=s.toks + 1 }) g (wpAny_bind (PySem.W.Looks.here (s:={ s with toks:=s.toks + 1 }) (PySem.W.looks_clsIn X hc) ?_))))))
 rw[hd']
 refine wpAny_pure (a:=some dx) ?_
 refine wpAny_bind (wpAny_pure ?_)
 refine wpAny_bind ?_
 refine wpAny_nsSet1 (s:={ s with toks:=s.toks + 1 }) n fun h' hn2 hs2=>?_
 obtain⟨oD,esD,epD,hoD,hdD,hcD⟩:=hn2.count (PySem.Within.cons name v hw)
 have few:esD.size≤sizeLine:=Nat.le_trans hcD (by simpa using hsz)
 refine wpAny_bind (wpAny_lookBehind hoD (hdD ▸ pastItsLine_dict (Nat.le_succ_of_le few)) ?_)
 exact wpAny_pure (h h' _ ((hs2.2 _ (Ne.symm ne)).trans g) hn2 hs2)
end
end L2
namespace L2
open PySem PySem.Spec PyProof.Rows
def XdO (d:Addr) (fs:List (Str×V)):HO:=HO.ext fun h=>∃ mA,h.Ns1 d mA∧(∀ f,k9 (fs.lookup f) (mA f))∧PySem.Within mA (fs.map (·.1))
theorem wy {P:Program} {w:World} {H:Hp} {h:Heap} {d:Addr} {fs:List (Str×V)} {mA:Str→Option Value} (n:h.Ns1 d mA) (r:∀ f,k9 (fs.lookup f) (mA f)) (wi:PySem.Within mA (fs.map (·.1))):bX P w H h d (XdO d fs):=
 ⟨⟨mA,n,r,wi⟩,let ⟨o,_,_,q,_⟩:=n;⟨o,q⟩,fun _ _ ⟨mA,n,r,wi⟩ k=>⟨mA,n.at k,r,wi⟩⟩
theorem pM {P:Program} {w:World} {H:Hp} {h:Heap} {d:Addr} {fs:List (Str×V)} (ok:HOk P w H h) (q:H d=some (XdO d fs)):∃ mA,h.Ns1 d mA∧(∀ f,k9 (fs.lookup f) (mA f))∧PySem.Within mA (fs.map (·.1)):=
 (show bX P w H h d (XdO d fs) from ok d _ q).1
section
variable {X:Cx} {pins:List (Addr×Obj)} {σ:St} {H:Hp} {s:Shared} {A:Around} {E:Value→Shared→Prop} {e C d:Addr} {f:Str} {fs:List (Str×V)}
theorem pK {y:V} {u:Value} {Q:Unit→Shared→Prop} (I:Inv X pins σ H s) (q:H e=some (dJ e C none)) (c:tW X.K C) (n:PySem.W.takerIn X.K C f=some none) (ry:RelV y u)
  (h:∀ d s',H d=none→d≠e→Inv X pins σ (upd (upd H d (XdO d [(f,y)])) e (dJ e C (some d))) s'→Q () s'):wpAny (model X.prog X.w) A (setAttr (.ref e) f u) Q E s:=by
 obtain⟨t,g⟩:=jt I.hok q
 have hes:s.heap.objs.size≠e:=Nat.ne_of_gt (Heap.lt_size g)
 refine wo I.kIn g c n fun h' tk g' n' k=>h s.heap.objs.size _ (I.hok.fresh (Nat.le_refl _)) hes ?_
 obtain⟨od,es,ep,ho,hrest⟩:=id n'
 have hfr:od.isFreed=false:=(Heap.get?_some_iff.mp ho).2
 have gm:(s.heap.push od).get? s.heap.objs.size=some od:=Heap.get?_push_size _ hfr
 have nm:(s.heap.push od).Ns1 s.heap.objs.size (fun y=>if y=f then some u else none):=n'.at fun o q=>by rw[ho] at q;cases q;exact gm
 have I1:=I.laid (a:=s.heap.objs.size) (o:=XdO s.heap.objs.size [(f,y)]) (h':=s.heap.push od) (t':=s.toks) (fun b u q=>Heap.get?_push_of_some _ q) (Nat.le_refl _) (wy nm (fun g=>?_) fun g hg=>?_)
 ·refine I1.write (t':=tk) (h':=h') (x:=e) (e:=e) (o:=dJ e C (some s.heap.objs.size)) (by rw[ah (Ne.symm hes),q];exact True.intro) (.inl rfl) (fun b u hb z=>?_) ⟨_,g'⟩ (qC g')
  by_cases hb2:b=s.heap.objs.size
  ·subst hb2
   rw[gm] at z;cases z;exact ho
  ·refine k b u hb ?_
   have:(s.heap.push od).get? b=s.heap.get? b:=Heap.get?_push_ne s.heap b od hb2
   rw[← this];exact z
 ·show k9 (List.lookup g [(f,y)]) (if g=f then some u else none)
  by_cases z:g=f
  ·have hb:(g == f)=true:=beq_iff_eq.mpr z
   simp only[List.lookup,hb,if_pos z];exact ry
  ·have hb:(g == f)=false:=beq_eq_false_iff_ne.mpr z
   simp only[List.lookup,hb,if_neg z];exact True.intro
 ·by_cases z:g=f
  ·simp [z]
  ·exact absurd (if_neg z) hg
theorem pJ {y:V} {u:Value} {Q:Unit→Shared→Prop} (I:Inv X pins σ H s) (q:H e=some (dJ e C (some d))) (qd:H d=some (XdO d fs)) (ne:d≠e) (hl:fs.length < 1000) (c:tW X.K C) (n:PySem.W.takerIn X.K C f=some none) (ry:RelV y u)
  (h:∀ s',Inv X pins σ (upd H d (XdO d (mq f y fs))) s'→Q () s'):wpAny (model X.prog X.w) A (setAttr (.ref e) f u) Q E s:=by
 obtain⟨t,g⟩:=jt I.hok q
 obtain⟨mA,nA,r,wi⟩:=pM I.hok qd
 have hz:(fs.map (·.1)).length + 1≤sizeLine:=by rw[List.length_map,sizeLine_eq];omega
 refine wm I.kIn g nA ne c n wi hz fun h' tk g' n' sb=>h _ ?_
 refine I.write (t':=tk) (x:=d) (e:=d) (by rw[qd];exact True.intro) (.inl rfl) (fun b q hb z=>(sb.2 b hb).trans z) (let ⟨o,_,_,e',_⟩:=n';⟨o,e'⟩) (wy n' (fun g=>?_) fun g hg=>?_)
 ·show k9 ((mq f y fs).lookup g) (if g=f then some u else mA g)
  rw[lT]
  by_cases q:g=f
  ·rw[if_pos q,if_pos q];exact ry
  ·rw[if_neg q,if_neg q];exact r g
 ·by_cases q:g=f
  ·rw[q];exact(lL f y fs).1
  ·refine(lL f y fs).2 g (wi g fun z=>hg ?_)
   show (if g=f then some u else mA g)=none
   rw[if_neg q];exact z
end
def Ey (K:PySem.W.Frag) (ta tv:TE) (f:Str):TS:=fun D σ H=>tv σ H fun y H1=>ta σ H1 fun x H2=>∃ e C,x=.ref e∧tW K C∧PySem.W.takerIn K C f=some none∧
 ((H2 e=some (dJ e C none)∧∀ d,H2 d=none→d≠e→D.nx σ (upd (upd H2 d (XdO d [(f,y)])) e (dJ e C (some d))))∨
  ∃ d fs,H2 e=some (dJ e C (some d))∧H2 d=some (XdO d fs)∧d≠e∧fs.length < 1000∧D.nx σ (upd H2 d (XdO d (mq f y fs))))
section
variable {X:Cx} {CX:CXT} {k:Nat} {g C:Addr} {fd:FuncData} {ps:List Str} {sp:Sp} {dvs:List V} {ds:List Value} {E:XK} {x m f:Str} {p pos pos' apos:Pos} {e o value:Expr} {es:List Expr} {ta tv:TE} {t:TA} {mc:Value}
theorem qc (ha:PE X o ta) (hv:PE X value tv) (hs:swapsWith value (some (.Attribute o f pos')) pos.line X.env=pure false):PS X (.Assign [.Attribute o f pos'] value pos) (Ey X.K ta tv f):=by
 intro pins s σ H D I h
 refine plainObj_wpAny_Assign_Attribute (thn (hv pins s σ H _ I h) fun u s1 ⟨y,H1,I1,ry,q⟩=>thn (ha pins s1 σ H1 _ I1 q) fun ov s2 ⟨x,H2,I2,rx,a,C,ex,c,n,q2⟩=>?_) hs
 subst ex
 obtain rfl:ov=Value.ref a:=rx
 rcases q2 with ⟨qe,q2⟩ | ⟨d,fs,qe,qd,ne,hl,q2⟩
 ·exact pK I2 qe c n ry fun d s3 hd hne I3=>⟨σ,_,I3,q2 d hd hne⟩
 ·exact pJ I2 qe qd ne hl c n ry fun s3 I3=>⟨σ,_,I3,q2⟩
theorem qj {pl:Sem Bool} (hrd:PySem.W.readsIn X.K C mc=true) (hga:PySem.W.specialIn X.K (.ref C) "__getattribute__"=some (some (.builtin "type.__getattribute__"))) (hf:PySem.W.findCls X.K (.ref C) mc m=some (.val (.ref g))) (kp:PySem.W.keepIn X.K (.ref g)=true)
  (hg:Gl X x) (hm:X.mg x=some (.ref C)) (F:aM X.prog X.w X.K X.mg X.base CX k g fd ps sp) (hr:bO k X.A) (hb:Binds X.K fd ps ds) (hd:Vals dvs ds) (hx:Passes CX X E) (ha:PA X (e::es) t) (hdb:(x == ("__debug__":Str))=false:=by decide)
  (hst:starEach (e::es) X.env=(false,eval e X.env)::starEach es X.env:=by rfl) (hpl:(backTo pos (starEach es X.env)).any (·.1)=false:=by rfl)
  (ht:eval (.Call (.Attribute (.Name x p) m apos) (e::es) [] pos) X.env=(do
   let ov ← eval (.Name x p) X.env
   standAt apos.atName
   let (f,first) ← holding [ov] (getMethod ov m pl)
   callWith pos f first (backTo pos (starEach (e::es) X.env)) (backToKw pos (keywordEach [] X.env))):=by rfl) :
  PE X (.Call (.Attribute (.Name x p) m apos) (e::es) [] pos) (oC sp dvs E t):=by
 intro pins s σ H Q I h
 refine PySem.W.methodCall_KW (pl:=pl) (gz I hg hm ?_ hdb) ht
 refine PySem.W.method_cls I.kIn hga (PySem.W.cls_value I.kIn hrd hf rfl ?_)
 have I1:=I.tok (s.toks + 1)
 refine PySem.W.callWith_K (first:=[]) (h₀:=X.base) I.ok.mod.kin kp (thn (ha pos pins _ σ H _ I1 h) fun us s2 ⟨vs,H2,I2,r,q2⟩=>⟨I2.kIn,?_⟩) hst hpl
 exact lD (us:=us) (vs:=vs) F hr hb hd hx I2 r q2
end
end L2
namespace L2
open PySem PySem.Spec PyProof.Rows
namespace XI
open PySem.W
theorem fc (K:Frag):findCls K (.type "ValueError") (.type "type") "__init__"=some (.val (.builtin "ValueError.__init__")):=by kernel_rfl
theorem fg (K:Frag):findIn K (.type "type") "__getattribute__"=some (some (.builtin "type.__getattribute__")):=by kernel_rfl
theorem fs (K:Frag):subIn K (.type "type") (.type "type")=some true:=by kernel_rfl
theorem hk {M:Model} {h:Heap}:Looks M h (hookBefore (.type "type")) none:=by
 unfold hookBefore
 rw[if_neg (by decide)];exact .now
theorem so {M:Model} {h:Heap}:Looks M h (specialOf (.type "ValueError") "__getattribute__") (some (.builtin "type.__getattribute__")):=Looks.of_pure (by kernel_rfl)
theorem oq {M:Model} {h:Heap}:Looks M h (opaqueClassAbove (.type "ValueError")) none:=Looks.of_pure (by kernel_rfl)
theorem ty {M:Model} {h:Heap}:Looks M h (typeOf (.type "ValueError")) (.type "type"):=Looks.of_pure (by kernel_rfl)
theorem hd {M:Model} {A:Around} {E:Value→Shared→Prop} {s:Shared} {Q:Value→Shared→Prop} (h:Q (.builtin "ValueError.__init__") s):wpAny M A (handedOut (.builtin "ValueError.__init__")) Q E s:=by
 rw[handedOut_of (by kernel_rfl)];exact wpAny_pure h
end XI
section
variable {prog:Program} {w:World} {A:Around} {E:Value→Shared→Prop} {s:Shared} {K:PySem.W.Frag} {e C t:Addr} {dx:Option Addr} {u:Value}
theorem zo {pl:Sem Bool} {Q:Value×List Value→Shared→Prop} (X:K.In s.heap) (h:Q (.builtin "ValueError.__init__",[]) { s with toks:=s.toks + 1 }):wpAny (model prog w) A (getMethod (.type "ValueError") "__init__" pl) Q E s:=by
 unfold getMethod
 refine wpAny_bind (XI.so.here ?_)
 dsimp only
 rw[if_pos PySem.W.canon_tga]
 refine wpAny_bind (PySem.W.cls_open X XI.oq XI.ty (XI.fg K) XI.hk (XI.fs K) (XI.fc K) (wpAny_pure ?_))
 exact XI.hd (wpAny_pure h)
theorem Cb {Q:Value→Shared→Prop} (Y:dG (model prog w) s.heap C "ValueError" "ValueError.__new__") (g:s.heap.get? e=some { cls:=.ref C,dict:=dx,data:=.fields #[.ref t,.none,.none,.none,.bool false,.none] })
  (h:∀ h' t',h'.get? e=some { cls:=.ref C,dict:=dx,data:=.fields #[.ref t',.none,.none,.none,.bool false,.none] }→(∀ b o,b≠e→s.heap.get? b=some o→h'.get? b=some o)→Q .none { s with heap:=h' }) :
  wpAny (model prog w) A (call (.builtin "ValueError.__init__") [.ref e,u]) Q E s:=by
 have F:=PySem.F.excBase_ValueError
 have t1:PySem.W.Looks (model prog w) s.heap (isInstance (.ref e) (.type "ValueError")) true:=((PySem.W.Looks.ld g).andThen .now).andThen Y.top
 refine wpAny_call (codeAny_call_builtin F.init.plain F.initEntry ?_)
 obtain⟨⟨oc,od,cd,sl,hC,e1,e2,e4⟩,made,base,_,dunder,isTy⟩:=Y
 have hshort:=F.noStar
 obtain⟨hp,gg,dd,tk,os⟩:=s
 dsimp only at *
 unfold checkBuiltinCall
 simp only[F.initRow,F.initSplit,F.initKind]
 refine wpAny_bind (t1.here ?_)
 repeat (first | simp only[Bool.not_true,Bool.false_eq_true,if_false] | with_reducible refine wpAny_loadPart_at g ?_ | with_reducible refine wpAny_loadPart_at hC ?_ | lk | wp_step)
 have g1:=Heap.get?_push_of_some { cls:=.type "tuple",data:=.seq #[u] } g
 refine wpAny_load g1 ?_
 wp_walk
 refine h _ hp.objs.size ?_ fun b o hb q=>?_
 ·rw[Heap.get?_update_self _ g1 rfl];rfl
 ·rw[Heap.get?_update_other _ _ (Ne.symm hb)]
  exact Heap.get?_push_of_some _ q
end
def Co (K:PySem.W.Frag) (t:TA):TE:=fun σ H Q=>t σ H fun vs H2=>∃ e C dx y,vs=[.ref e,y]∧fj K C "ValueError" "ValueError.__new__"=true∧H2 e=some (dJ e C dx)∧Q .non H2
section
variable {X:Cx} {p pos apos:Pos} {a:Expr} {es:List Expr} {t:TA}
theorem xp {pl:Sem Bool} (hg:Gl X "ValueError") (hm:X.mg "ValueError"=none) (ha:PA X (a::es) t)
  (hst:starEach (a::es) X.env=(false,eval a X.env)::starEach es X.env:=by rfl) (hpl:(backTo pos (starEach es X.env)).any (·.1)=false:=by rfl)
  (ht:eval (.Call (.Attribute (.Name "ValueError" p) "__init__" apos) (a::es) [] pos) X.env=(do
   let ov ← eval (.Name "ValueError" p) X.env
   standAt apos.atName
   let (f,first) ← holding [ov] (getMethod ov "__init__" pl)
   callWith pos f first (backTo pos (starEach (a::es) X.env)) (backToKw pos (keywordEach [] X.env))):=by rfl) :
  PE X (.Call (.Attribute (.Name "ValueError" p) "__init__" apos) (a::es) [] pos) (Co X.K t):=by
 intro pins s σ H Q I h
 refine PySem.W.methodCall_KW (pl:=pl) (kf (u:=.type "ValueError") I hg hm (by kernel_rfl) ?_) ht
 refine zo I.kIn ?_
 have I1:=I.tok (s.toks + 1)
 have hA:=ha pos pins _ σ H _ I1 h
 rw[hst] at hA ⊢
 refine Calls.callWith_builtin (by show (false || (backTo pos (starEach es X.env)).any (·.1))=false;rw[hpl] <;> rfl) (Calls.evalArgs_plain ?_)
 refine thn hA fun us s2 ⟨vs,H2,I2,r2,e,C,dx,y,ev,mk,q,hQ⟩=>?_
 subst ev
 obtain⟨u1,us1,rfl,r1,r3⟩:∃ u us',us=u::us'∧RelV (.ref e) u∧Vals [y] us':=by cases r2 with | cons a b=>exact⟨_,_,rfl,a,b⟩
 obtain⟨u2,rfl,_⟩:∃ u,us1=[u]∧RelV y u:=by cases r3 with | cons a b=>cases b;exact⟨_,rfl,a⟩
 obtain rfl:u1=Value.ref e:=r1
 obtain⟨tt,g⟩:=jt I2.hok q
 refine Cb (lg I2.kIn mk) g fun h' t' g' k=>⟨.non,H2,?_,rfl,hQ⟩
 have I3:=I2.write (t':=s2.toks) (h':=h') (x:=e) (e:=e) (o:=dJ e C dx) (by rw[q];exact True.intro) (.inl rfl) (fun b o hb z=>k b o hb z) ⟨_,g'⟩ (qC g')
 have:upd H2 e (dJ e C dx)=H2:=by
  funext b
  by_cases hb:b=e
  ·rw[hb,au,q]
  ·rw[ah hb]
 rw[this] at I3
 exact I3
end
end L2
namespace L2
open PySem PySem.Spec PyProof.Rows
structure XAt (X:Cx) (pins:List (Addr×Obj)) (n:Nat):Prop where
 s0:X.s₀.heap.objs.size≤n
 loc:X.env.locals < n
 cel:∀ x c,X.env.cells.lookup x=some c→c < n
 pin:∀ p∈X.pn++pins,p.1 < n
section
variable {X:Cx} {pins:List (Addr×Obj)} {σ:St} {H:Hp} {s:Shared} {n:Nat} {h':Heap} {e L:Addr} {cls:Value} {dx:Option Addr} {M:Model} {E:Value→Shared→Prop}
theorem Inv.xat (I:Inv X pins σ H s):XAt X pins s.heap.objs.size:=
 ⟨I.sz,I.lt,fun x c q=>let ⟨_,_,ho,_⟩:=I.cell x c q;Heap.lt_size ho,fun p hp=>Heap.lt_size (I.pin p hp).1⟩
theorem XAt.forget (a:XAt X pins n):XAt X [] n:=⟨a.s0,a.loc,a.cel,fun p hp=>a.pin p (List.mem_append_left _ (by simpa using hp))⟩
theorem Inv.lv (I:Inv X pins σ H s) (a:XAt X pins n) (l:Lv n H (frs X.stack) s.heap h'):Inv X pins σ H { s with heap:=h' }:=by
 have hok:HOk X.prog X.w H h':=fun b o q=>by
  refine(I.hok b o q).j8 (fun c u hc g=>?_) (fun _ z=>z) fun _ _ z=>z
  have hn:H c≠none:=by
   rcases hc with z | z
   ·rw[z,q];simp
   ·rw[z];simp
  exact l.keep c u g (fun m=>hn (I.pU c m)) (.inr hn)
 have mem:∀ b,b∈(List.range s.heap.objs.size).filter (fun b=>decide (n≤b))↔b < s.heap.objs.size∧n≤b:=fun b=>by simp [List.mem_filter,List.mem_range]
 refine I.call (g':=s.gens) (t':=s.toks) (d':=s.drawn) (ch:=(List.range s.heap.objs.size).filter (fun b=>decide (n≤b))) ⟨fun b o q nn nf nch=>?_,fun b o q nn hb _=>l.slot b o q hb,fun b o _ nn _=>nn,fun b o q _=>l.there b o q,fun _ _ z=>z,fun _ _ _ z=>z,fun b ps z=>⟨#[],by rw[z,Array.append_empty]⟩⟩ hok I.bare fun b hb=>?_
 ·refine l.keep b o q nf (.inl ?_)
  rcases Nat.lt_or_ge b n with z | z
  ·exact z
  ·exact absurd ((mem b).mpr ⟨Heap.lt_size q,z⟩) nch
 ·have z:=((mem b).mp hb).2
  refine⟨.inr (Nat.le_trans a.s0 z),fun y=>?_,fun x c q y=>?_,fun p hp y=>?_⟩
  ·exact Nat.lt_irrefl b (Nat.lt_of_lt_of_le (by rw[y];exact a.loc) z)
  ·exact Nat.lt_irrefl b (Nat.lt_of_lt_of_le (by rw[← y];exact a.cel x c q) z)
  ·exact Nat.lt_irrefl b (Nat.lt_of_lt_of_le (by rw[← y];exact a.pin p hp) z)
theorem land (I:Inv X pins σ H s) (a:XAt X pins n) (x:ExcAt n H s.heap e cls dx) (hs:X.stack=X.env::X.outer) (hf:X.env.frame=some L) {Q:Unit→Shared→Prop}
  (h:∀ h',Inv X pins σ H { s with heap:=h' }→ExcAt n H h' e cls dx→Q () { s with heap:=h' }) :
  wpAny M X.A (noteFrame (.ref e) X.env) (fun _ s'=>wpAny M X.A (setFlight (.ref e) none) Q E s') E s:=by
 have ff:=I.stack
 have fr:=I.ok.frames
 rw[hs] at ff fr
 have hn:n≤s.heap.objs.size:=by
  obtain⟨oe,vs,he,_⟩:=x.rcd
  exact Nat.le_trans x.ge (Nat.le_of_lt (Heap.lt_size he))
 refine rS (n:=n) (H:=H) fr ff hf hn (fun b hb=>I.hok.fresh hb) x fun h' l x' _=>h h' (I.lv a ?_) x'
 rw[hs];exact l
end
def XP (X:Cx) (W:St→XK) (ev:Value) (s':Shared):Prop:=∃ e cls dx H' σ' n,ev=.ref e∧Inv X [] σ' H' s'∧XAt X [] n∧ExcAt n H' s'.heap e cls dx∧W σ' cls dx H'
def dH (CX:CXT) (X:Cx) (E:St→XK):Prop:=∀ (pins:List (Addr×Obj)) (σ:St) (H:Hp) (s:Shared) (e:Value) (s':Shared),Inv X pins σ H s→CX X.stack H s (E σ) e s'→X.xe e s'
theorem dH.of {CX:CXT} {X:Cx} {E:XK} (h:Passes CX X E):dH CX X fun _=>E:=fun pins σ H s e s' I q=>h pins σ H s e s' I q
theorem zm {X:Cx} {W:St→XK} {pins:List (Addr×Obj)} {σ:St} {H:Hp} {s:Shared} {ev:Value} {s':Shared} (I:Inv X pins σ H s) (h:CX1 X.prog X.w X.base X.stack H s (W σ) ev s'):XP X W ev s':=by
 obtain⟨e,cls,dx,H',ee,os,bare,un,hok,ff,x,hE⟩:=h
 have I1:Inv X pins σ H' s':=I.vb (ch:=[]) os un hok bare fun _ z=>nomatch z
 have I2:Inv X [] σ H' s':=I1.gp fun _ z=>nomatch z
 exact⟨e,cls,dx,H',σ,s.heap.objs.size,ee,I2,I.xat.forget,x,hE⟩
theorem A7 {X:Cx} {W:St→XK}:dH (CX1 X.prog X.w X.base) (X.iT (XP X W)) W:=by
 intro pins σ H s ev s' I h
 have h':CX1 X.prog X.w X.base X.stack H s (W σ) ev s':=h
 exact zm I.cx h'
end L2
namespace L2
open PySem PySem.Spec PyProof.Rows
section
variable {X:Cx} {pins:List (Addr×Obj)} {σ:St} {H:Hp} {s:Shared} {n:Nat} {e:Addr} {cls:Value} {dx:Option Addr}
theorem mK {M:Model} {A:Around} {E:Value→Shared→Prop} {i:Nat} {x:Str} {pos:Pos} {Q:Unit→Shared→Prop} (I:Inv X pins σ H s) (hN:X.N.Nodup) (hi:X.N[i]?=some x) (hk:X.env.kindOf x=some .local)
  (h:∀ s',Inv X pins (σ.set i none) H s'→Q () s'):wpAny M A (do bindName X.env x .none;unbindBehindTheSuite X.env x pos) Q E s:=by
 obtain⟨m,hn,hl⟩:=id I.loc
 have hcls:(X.env.scope.kind == .class || (X.env.scope.kind == .module && X.env.locals != X.env.globals))=false:=by rw[I.ok.kind];rfl
 have hiσ:i < σ.length:=by rw[I.len];exact(List.getElem?_eq_some_iff.mp hi).1
 refine wpAny_nameGoes_keeps hk hn hcls fun h' v hn' hs=>h _ ?_
 have tracked:HOk X.prog X.w H h':=fun b ob e=>by
  refine(I.hok b ob e).j8 (fun c w' hc q=>(hs.2 c ?_).trans q) (fun _ q=>q) fun _ _ q=>q
  intro z
  have fr:=I.free
  rw[← z] at fr
  rcases hc with y | y
  ·rw[y,e] at fr;cases fr
  ·rw[y] at fr;cases fr
 refine⟨I.ok,I.os,I.bare,⟨fun b o e n hb hx=>?_,fun b o e n hb hx=>?_,I.base.free,fun b o e hx=>?_,I.base.tups,I.base.frzs,I.base.tbls⟩,⟨_,hn',fun j y v' e1 e2 e3=>?_⟩,fun y c e=>?_,I.free,I.freeC,fun p hp=>?_,tracked,by rw[List.length_set];exact I.len⟩
 ·exact(hs.2 b (Nat.ne_of_lt (Nat.lt_of_lt_of_le (Heap.lt_size e) I.ok.above))).trans (I.base.keep b o e n hb hx)
 ·obtain⟨sl,e1⟩:=I.base.slot b o e n hb hx
  exact⟨sl,(hs.2 b (Nat.ne_of_lt (Nat.lt_of_lt_of_le (Heap.lt_size e) I.ok.above))).trans e1⟩
 ·obtain⟨o',e1⟩:=I.base.there b o e hx
  exact⟨o',(hs.2 b (Nat.ne_of_lt (Nat.lt_of_lt_of_le (Heap.lt_size e) I.ok.above))).trans e1⟩
 ·by_cases hj:j=i
  ·subst hj
   rw[List.getElem?_set_self hiσ] at e2
   cases e2
  ·rw[List.getElem?_set_ne (Ne.symm hj)] at e2
   obtain⟨u',r',q⟩:=hl j y v' e1 e2 e3
   refine⟨u',r',?_⟩
   rcases q with ⟨k,e⟩ | ⟨k,c,e,z⟩
   ·refine .inl ⟨k,?_⟩
    have:y≠x:=fun e=>hj (nB hN e1 (e ▸ hi))
    simp [this,e]
   ·exact .inr ⟨k,c,e,z.sameBut hs (I.cne y c e)⟩
 ·obtain⟨w',z⟩:=I.cell y c e
  exact⟨w',z.sameBut hs (I.cne y c e)⟩
 ·obtain⟨e,n,ne,nf,d⟩:=I.pin p hp
  exact⟨(hs.2 p.1 ne).trans e,n,ne,nf,d⟩
def jz (e:Addr) (cls:Value) (dx:Option Addr):HO:=HO.ext fun h=>∃ o vs,h.get? e=some o∧o.cls=cls∧o.dict=dx∧o.data=.fields vs
theorem rY {P:Program} {w:World} {H:Hp} {h:Heap} (ok:HOk P w H h) (q:H e=some (jz e cls dx)):∃ o vs,h.get? e=some o∧o.cls=cls∧o.dict=dx∧o.data=.fields vs:=
 (show bX P w H h e (jz e cls dx) from ok e _ q).1
theorem Inv.DY (I:Inv X pins σ H s) (a:XAt X pins n) (x:ExcAt n H s.heap e cls dx):Inv X pins σ (upd H e (jz e cls dx)) s:=by
 obtain⟨ge,fr,oe,vs,he,hc,hd,hdt,hz,_⟩:=x
 have ne:∀ b,H b≠none→b≠e:=fun b hb z=>hb (by rw[z];exact fr)
 have hok:HOk X.prog X.w (upd H e (jz e cls dx)) s.heap:=fun b o q=>by
  by_cases z:b=e
  ·subst z
   rw[au] at q;cases q
   exact⟨⟨oe,vs,he,hc,hd,hdt⟩,⟨oe,he⟩,fun _ _ ⟨o,vs,q,r⟩ k=>⟨o,vs,k _ q,r⟩⟩
  ·rw[ah z] at q
   exact(I.hok b o q).j8 (fun _ _ _ r=>r) (fun c r=>by rw[ah (ne c (by rw[r];simp))];exact r) fun c xs r=>by rw[ah (ne c (by rw[r];simp))];exact r
 refine I.vb (ch:=[e]) rfl ⟨fun b o q _ _ _=>q,fun b o q _ _ _=>⟨o.slots,q⟩,fun b o q nn nch=>?_,fun b o q _=>⟨o,q⟩,fun b xs r=>?_,fun b o u r=>?_,fun b ps r=>⟨#[],?_⟩⟩ hok I.bare fun b hb=>?_
 ·rw[ah (fun z=>nch (by simp [z]))];exact nn
 ·rw[ah (ne b (by rw[r];simp))];exact r
 ·rw[ah (ne b (by rw[r];simp))];exact r
 ·rw[ah (ne b (by rw[r];simp)),Array.append_empty];exact r
 ·have hb:b=e:=by simpa using hb
  subst hb
  refine⟨.inr (Nat.le_trans a.s0 ge),fun y=>?_,fun x c q y=>?_,fun p hp y=>?_⟩
  ·exact Nat.lt_irrefl b (Nat.lt_of_lt_of_le (by rw[y];exact a.loc) ge)
  ·exact Nat.lt_irrefl b (Nat.lt_of_lt_of_le (by rw[← y];exact a.cel x c q) ge)
  ·exact Nat.lt_irrefl b (Nat.lt_of_lt_of_le (by rw[← y];exact a.pin p hp) ge)
theorem v8 {M:Model} {A:Around} {E:Value→Shared→Prop} {Q:Unit→Shared→Prop} (I:Inv X pins σ H s) (a:XAt X pins n) (x:ExcAt n H s.heap e cls dx)
  (h:∀ h',Inv X pins σ H { s with heap:=h' }→ExcAt n H h' e cls dx→Q () { s with heap:=h' }):wpAny M A (setFlight (.ref e) none) Q E s:=by
 obtain⟨ge,fr,oe,vs,he,hc,hd,hdt,hz,tb⟩:=x
 unfold setFlight
 rcases tb with h1 | ⟨T,oT,ts,h1,gT,nT,fT,hT,hdT,h3⟩
 ·refine wpAny_bind (wpAny_field he hdt h1 ?_)
  rw[if_neg (by decide)]
  exact wpAny_pure (h s.heap I ⟨ge,fr,oe,vs,he,hc,hd,hdt,hz,.inl h1⟩)
 ·refine wpAny_bind (wpAny_field he hdt h1 ?_)
  rw[if_pos (show (Value.ref T != Value.none)=true by simp)]
  have tz:=(Array.getElem?_eq_some_iff.mp h3).1
  refine wpAny_setField hT hdT tz ?_
  have ot:∀ b,b≠T→(s.heap.update T (Obj.mapFields (·.setIfInBounds 3 Value.none))).get? b=s.heap.get? b:=fun b hb=>Heap.get?_update_other _ _ (Ne.symm hb)
  have tT:=Heap.get?_update_self (Obj.mapFields (·.setIfInBounds 3 Value.none)) hT (Obj.isFreed_of_fields (Obj.data_mapFields hdT _))
  refine h _ (I.lv a ⟨fun b o q nf hb=>(ot b fun z=>?_).trans q,fun b o q hb=>⟨o.slots,(ot b fun z=>?_).trans q⟩,fun b o q=>?_⟩) ⟨ge,fr,oe,vs,(ot e (Ne.symm nT)).trans he,hc,hd,hdt,hz,.inr ⟨T,_,_,h1,gT,nT,fT,tT,Obj.data_mapFields hdT _,?_⟩⟩
  ·subst z
   rcases hb with w | w
   ·exact Nat.lt_irrefl _ (Nat.lt_of_lt_of_le w gT)
   ·exact w fT
  ·subst z
   obtain⟨_,o',ho',nf'⟩:=I.stack.mem hb
   rw[hT] at ho';cases ho'
   exact nf' ts hdT
  ·by_cases z:b=T
   ·subst z;exact⟨_,tT⟩
   ·exact⟨o,(ot b z).trans q⟩
  ·rw[Array.getElem?_setIfInBounds_self_of_lt tz]
end
end L2
namespace L2
open PySem PySem.Spec PyProof.Rows
structure zk (K:PySem.W.Frag) (C:Addr):Prop where
 ty:PySem.W.typeIn K (.ref C)=some (.type "type")
 ex:PySem.W.mroIn K C (.type "BaseException")=some true
theorem tP {K:PySem.W.Frag} {C:Addr} {cd:ClassData} (h:PySem.W.clsIn K C=some cd):∃ oc od sl,K.lookup C=some ⟨oc,od,.cls cd,sl⟩:=by
 unfold PySem.W.clsIn at h
 split at h
 ·rename_i q
  cases h
  exact⟨_,_,_,q⟩
 ·cases h
section
variable {prog:Program} {w:World} {A:Around} {E:Value→Shared→Prop} {s:Shared} {K:PySem.W.Frag} {e C C₀:Addr} {oe:Obj} {b:Bool} {Q:Bool→Shared→Prop}
theorem exm (X:K.In s.heap) (c:zk K C₀) (he:s.heap.get? e=some oe) (hc:oe.cls=.ref C) (hs:PySem.W.mroIn K C (.ref C₀)=some b) (h:Q b s):wpAny (model prog w) A (excMatches (.ref e) (.ref C₀)) Q E s:=by
 have l1:PySem.W.Looks (model prog w) s.heap (typeOf (.ref C₀)) (.type "type"):=PySem.W.looks_typeIn X c.ty
 have l2:PySem.W.Looks (model prog w) s.heap (isSubtype (.ref C₀) (.type "BaseException")) true:=PySem.W.looks_mroIn X c.ex
 have l3:PySem.W.Looks (model prog w) s.heap (typeOf (.ref e)) (.ref C):=by rw[← hc];exact(PySem.W.Looks.ld he).andThen .now
 have l4:PySem.W.Looks (model prog w) s.heap (isSubtype (.ref C) (.ref C₀)) b:=PySem.W.looks_mroIn X hs
 have f:=tc_notTuple
 have f2:=tc_sub
 obtain⟨cd,h1,_⟩:=Option.bind_eq_some_iff.mp c.ex
 obtain⟨oc,od,sl,h2⟩:=tP h1
 have hC:=X _ _ h2
 unfold excMatches
 obtain⟨hp,gg,dd,tk,os⟩:=s
 repeat (first | with_reducible refine wpAny_loadPart_at hC ?_ | lk | wp_step)
 cases b <;> (wp_walk;exact h)
end
abbrev Cx.ka (X:Cx) (pins:List (Addr×Obj)):Cx:={ X with pn:=X.pn++pins }
abbrev Cx.sui (X:Cx) (e:Addr):Cx:={ X with A:=X.A.mark (some (.ref e)),calm:=false,xe:=fun _ _=>False }
section
variable {X:Cx} {pins:List (Addr×Obj)} {σ:St} {H:Hp} {s:Shared} {e:Addr}
theorem Cx.Ok.ka (ok:X.Ok):(X.ka pins).Ok:=
 ⟨ok.mod,ok.kind,ok.glob,ok.blt,ok.above,ok.inj,ok.has,ok.cab,ok.hd,ok.frames,ok.stk,ok.exf,ok.bs,ok.bsz,ok.noex,ok.exfs,ok.iR,ok.frf,ok.tb⟩
theorem Cx.Ok.gG (ok:(X.ka pins).Ok):X.Ok:=
 ⟨ok.mod,ok.kind,ok.glob,ok.blt,ok.above,ok.inj,ok.has,ok.cab,ok.hd,ok.frames,ok.stk,ok.exf,ok.bs,ok.bsz,ok.noex,ok.exfs,ok.iR,ok.frf,ok.tb⟩
theorem Inv.ka (I:Inv X pins σ H s):Inv (X.ka pins) [] σ H s:=⟨I.ok.ka,I.os,I.bare,I.base,I.loc,I.cell,I.free,I.freeC,fun p hp=>I.pin p (by rw[List.append_nil] at hp;exact hp),I.hok,I.len⟩
theorem Inv.gG (I:Inv (X.ka pins) [] σ H s):Inv X pins σ H s:=⟨I.ok.gG,I.os,I.bare,I.base,I.loc,I.cell,I.free,I.freeC,fun p hp=>I.pin p (by rw[List.append_nil];exact hp),I.hok,I.len⟩
theorem Cx.Ok.sui (ok:X.Ok) (e:Addr):(X.sui e).Ok:=
 ⟨ok.mod,ok.kind,ok.glob,ok.blt,ok.above,ok.inj,ok.has,ok.cab,fun z=>(Bool.noConfusion z),ok.frames,ok.stk,ok.exf,ok.bs,ok.bsz,ok.noex,ok.exfs,ok.iR,ok.frf,ok.tb⟩
theorem Inv.sui (I:Inv X pins σ H s) (e:Addr):Inv (X.sui e) pins σ H s:=⟨I.ok.sui e,I.os,I.bare,I.base,I.loc,I.cell,I.free,I.freeC,I.pin,I.hok,I.len⟩
theorem Inv.t7 (ok:X.Ok) (I:Inv (X.sui e) pins σ H s):Inv X pins σ H s:=⟨ok,I.os,I.bare,I.base,I.loc,I.cell,I.free,I.freeC,I.pin,I.hok,I.len⟩
end
def Ends.qz (D:Ends) (i:Nat):Ends:=⟨fun σ H=>D.nx (σ.set i none) H,D.rt,fun σ H=>D.bk (σ.set i none) H,fun σ H=>D.ct (σ.set i none) H⟩
def zt (K:PySem.W.Frag) (C₀:Addr) (i:Nat) (ts:TS) (D:Ends):St→XK:=fun σ' cls dx H'=>∃ C,cls=.ref C∧PySem.W.mroIn K C (.ref C₀)=some true∧∀ e,H' e=none→ts (D.qz i) (σ'.set i (some (.ref e))) (upd H' e (jz e cls dx))
def Cp (K:PySem.W.Frag) (C₀:Addr) (i:Nat) (tb:(St→XK)→TS) (ts:TS):TS:=fun D σ H=>tb (zt K C₀ i ts D) D σ H
section
variable {X:Cx} {x nm:Str} {i:Nat} {C₀ L:Addr} {body suite:List Stmt} {b₀:Stmt} {np hpos pos:Pos} {tb:(St→XK)→TS} {ts:TS}
theorem yY {pins:List (Addr×Obj)} {σ:St} {H:Hp} {s:Shared} {n:Nat} {e:Addr} {cls:Value} {dx:Option Addr} {D:Ends} (c:zk X.K C₀) (hg:Gl X x) (hm:X.mg x=some (.ref C₀)) (hN:X.N.Nodup) (hi:X.N[i]?=some nm) (hk:X.env.kindOf nm=some .local)
  (hs:∀ e,PSs (X.sui e) (b₀::suite) ts) (I:Inv X pins σ H s) (a:XAt X pins n) (y:ExcAt n H s.heap e cls dx) (w:zt X.K C₀ i ts D σ cls dx H) (hdb:(x == ("__debug__":Str))=false) :
  wpAny (model X.prog X.w) X.A (handleBy (.ref e) X.env [.ExceptHandler (some (.Name x np)) (some nm) (b₀::suite) hpos]) (SP X pins D) X.xe s:=by
 obtain⟨C,rfl,hsub,ht⟩:=w
 obtain⟨oe,vs,he,hc,_⟩:=id y.rcd
 refine wpAny_handleBy_cons (codeAny_handlers_test (gz (X:=X.sui e) (I.sui e) hg hm ?_ hdb)) (by intro q;cases q)
 refine exm I.kIn c he hc hsub ?_
 dsimp only
 rw[if_pos rfl]
 refine codeAny_handlers_suite_as (v8 I a y fun h' I1 y1=>?_)
 have I2:=I1.DY a y1
 refine mU (v:=.ref e) I2 hN hi (.inl hk) rfl (fun s2 I3=>?_) (.inr hk)
 refine wpAny_mono ((hs e) pins s2 _ _ (D.qz i) (I3.sui e) (ht e y.free)) (fun f s3 q=>?_) fun _ _ z=>z.elim
 have ok:=I.ok
 cases f with
 | next=>
  obtain⟨σ',H',I',q⟩:=q
  exact mK (I'.t7 ok) hN hi hk fun s4 I4=>⟨_,H',I4,q⟩
 | brk=>
  obtain⟨σ',H',I',q⟩:=q
  exact mK (I'.t7 ok) hN hi hk fun s4 I4=>⟨_,H',I4,q⟩
 | cont=>
  obtain⟨σ',H',I',q⟩:=q
  exact mK (I'.t7 ok) hN hi hk fun s4 I4=>⟨_,H',I4,q⟩
 | ret u=>
  obtain⟨v,σ',H',I',r,q⟩:=q
  exact mK (I'.t7 ok) hN hi hk fun s4 I4=>⟨v,_,H',I4,r,q⟩
theorem CP (c:zk X.K C₀) (hst:X.stack=X.env::X.outer) (hfr:X.env.frame=some L) (hg:Gl X x) (hm:X.mg x=some (.ref C₀)) (hN:X.N.Nodup) (hi:X.N[i]?=some nm) (hk:X.env.kindOf nm=some .local)
  (hb:∀ pins W,PSs ((X.ka pins).iT (XP (X.ka pins) W)) body (tb W)) (hs:∀ pins e,PSs ((X.ka pins).sui e) (b₀::suite) ts) (hdb:(x == ("__debug__":Str))=false:=by decide) :
  PS X (.Try body [.ExceptHandler (some (.Name x np)) (some nm) (b₀::suite) hpos] [] [] pos) (Cp X.K C₀ i tb ts):=by
 intro pins s σ H D I h
 have bd:=hb pins (zt X.K C₀ i ts D) [] s σ H D (I.ka.iT _) h
 refine wpAny_Try_except (wpAny_mono bd (fun f s1 q=>?_) fun ev s1 q=>?_)
 ·cases f with
  | next=>
   obtain⟨σ',H',I',q⟩:=q
   exact wpAny_execs_nil ⟨σ',H',I'.cx.gG,q⟩
  | brk=>
   obtain⟨σ',H',I',q⟩:=q
   exact⟨σ',H',I'.cx.gG,q⟩
  | cont=>
   obtain⟨σ',H',I',q⟩:=q
   exact⟨σ',H',I'.cx.gG,q⟩
  | ret u=>
   obtain⟨v,σ',H',I',r,q⟩:=q
   exact⟨v,σ',H',I'.cx.gG,r,q⟩
 ·obtain⟨e,cls,dx,H',σ',n,rfl,I',a,y,w⟩:=q
  refine land I' a y hst hfr fun h' I2 y2=>?_
  have r:=yY (X:=X.ka pins) (np:=np) (hpos:=hpos) (D:=D) c hg hm hN hi hk (hs pins) I2 a y2 w hdb
  refine thn r fun f s3 q=>?_
  cases f with
  | next=>
   obtain⟨σ2,H2,I2,q⟩:=q
   exact⟨σ2,H2,I2.gG,q⟩
  | brk=>
   obtain⟨σ2,H2,I2,q⟩:=q
   exact⟨σ2,H2,I2.gG,q⟩
  | cont=>
   obtain⟨σ2,H2,I2,q⟩:=q
   exact⟨σ2,H2,I2.gG,q⟩
  | ret u=>
   obtain⟨v,σ2,H2,I2,r,q⟩:=q
   exact⟨v,σ2,H2,I2.gG,r,q⟩
end
end L2
namespace L2
open PySem PySem.Spec PyProof.Rows
def pQ (sp:Sp) (dvs:List V) (E:St→XK) (t:TA):TE:=fun σ H Q=>t σ H fun vs H1=>sp (vs++dvs) H1 Q (E σ)
section
variable {X:Cx} {CX:CXT} {k:Nat} {f C:Addr} {fd:FuncData} {ps:List Str} {sp:Sp} {dvs:List V} {ds:List Value} {E:St→XK} {x m:Str} {p pos apos:Pos} {e o:Expr} {es:List Expr} {ta:TE} {t:TA}
theorem ui {pins:List (Addr×Obj)} {σ:St} {H:Hp} {s:Shared} {Q:VK} {us:List Value} {vs:List V} (F:aM X.prog X.w X.K X.mg X.base CX k f fd ps sp) (hr:bO k X.A) (hb:Binds X.K fd ps ds) (hd:Vals dvs ds) (hx:dH CX X E)
  (I:Inv X pins σ H s) (r:Vals vs us) (h:sp (vs++dvs) H Q (E σ)):wpAny (model X.prog X.w) X.A (call (.ref f) us) (EP X pins σ Q) X.xe s:=by
 have r2:Vals (vs++dvs) (us++ds):=r.append hd
 have hl:(us++ds).length=ps.length:=by rw[← r2.length];exact F.len _ _ _ _ h
 refine wpAny_call (codeAny_mono (F.run X.A X.stack s H ⟨us,[]⟩ (us++ds) (vs++dvs) Q (E σ) hr I.DU (hb s us I.kIn hl) r2 h) fun r s' hq=>?_)
 cases r with
 | error e=>exact hx pins σ H s e s' I hq
 | ok fl=>
  cases fl with
  | ret u=>exact I.after hq
  | next=>exact False.elim hq
  | brk=>exact False.elim hq
  | cont=>exact False.elim hq
theorem xy (F:aM X.prog X.w X.K X.mg X.base CX k f fd ps sp) (hr:bO k X.A) (hg:Gl X x) (hm:X.mg x=some (.ref f)) (hk:PySem.W.keepIn X.K (.ref f)=true) (hb:Binds X.K fd ps ds) (hd:Vals dvs ds) (hx:dH CX X E)
  (ha:PA X (e::es) t) (hdb:(x == ("__debug__":Str))=false:=by decide) (he:starEach (e::es) X.env=(false,eval e X.env)::starEach es X.env:=by rfl) (hpl:(backTo pos (starEach es X.env)).any (·.1)=false:=by rfl) :
  PE X (.Call (.Name x p) (e::es) [] pos) (pQ sp dvs E t):=by
 intro pins s σ H Q I h
 refine wpAny_Call_Name_kw (gz I hg hm ?_ hdb)
 refine PySem.W.callWith_K (h₀:=X.base) I.ok.mod.kin hk (thn (ha pos pins s σ H _ I h) fun us s1 ⟨vs,H1,I1,r,q⟩=>⟨I1.kIn,?_⟩) he hpl
 exact ui F hr hb hd hx I1 r q
end
end L2
namespace L2
open PySem PySem.Spec PyProof.Rows
structure qU (K:PySem.W.Frag) (C:Addr):Prop where
 ga:PySem.W.findIn K (.ref C) "__getattribute__"=some (some (.builtin "BaseException.__getattribute__"))
 gh:PySem.W.findIn K (.ref C) "__getattr__"=some none
 hd:PySem.W.hasDictIn K C=true
 ex:PySem.W.mroIn K C (.type "BaseException")=some true
section
variable {prog:Program} {w:World} {A:Around} {E:Value→Shared→Prop} {s:Shared} {K:PySem.W.Frag} {e C dx:Addr} {name:Str} {v:Value} {mA:Str→Option Value} {oe:Obj} {vs:Array Value}
open PySem.W in
theorem wt {expr:Bool} {Q:Value→Shared→Prop} (X:K.In s.heap) (he:s.heap.get? e=some oe) (hc:oe.cls=.ref C) (hdx:oe.dict=some dx) (hdt:oe.data=.fields vs) (n:s.heap.Ns1 dx mA) (c:qU K C)
  (ha:findIn K (.ref C) name=some none) (hv:mA name=some v) (hv':handedIn v=true) (h:Q v { s with toks:=s.toks + 1 }):wpAny (model prog w) A (getAttr (.ref e) name expr) Q E s:=by
 obtain⟨od,ho,hl⟩:=jI n
 have I:InstAt s.heap e oe C (some od):=⟨he,hc,by unfold notCls;rw[hdt],by rw[hdx];exact ho⟩
 have hf:findObj K C (some od) name=some (.value v):=findObj_own c.hd ha rfl (by rw[hl,hv])
 have ti:Looks (model prog w) s.heap (isInstance (.ref e) (.type "BaseException")) true:=I.type.andThen (looks_mroIn X c.ex)
 have L0:=I.type (M:=model prog w)
 have L1:=looks_find (M:=model prog w) X I hf
 have hb:Looks (model prog w) s.heap (hookBefore (.ref C)) none:=looks_hook X (show (if true=true then findIn K (.ref C) "__getattr__" else some none)=some none from c.gh)
 have ga:=PySem.F.attr_ValueError.ga
 refine wpAny_bind (wpAny_mkText (wpAny_holding (wpAny_bind (L0 _ _ _ _ (fun _ _ e=>e) (wpAny_bind (looks_findIn X c.ga _ _ _ _ (fun _ _ e=>e) ?_))))))
 dsimp only
 rw[show (onTheHeap (Value.ref C) && Value.builtin "BaseException.__getattribute__" == Value.builtin "object.__getattribute__")=false from by rw[show (Value.builtin "BaseException.__getattribute__" == Value.builtin "object.__getattribute__")=false from by decide +kernel,Bool.and_false],if_neg (by decide)]
 refine wpAny_bind (hb _ _ _ _ (fun _ _ e=>e) ?_)
 refine wpAny_bind (wpAny_attempt (wpAny_holding ?_))
 unfold callGetattribute
 rw[show (expr && onTheHeap (Value.builtin "BaseException.__getattribute__"))=false from Bool.and_false _,if_neg (by decide)]
 unfold boundAndCalled
 rw[ga.bind]
 refine wpAny_bind (wpAny_pure ?_)
 show wpAny _ _ (call (.builtin "BaseException.__getattribute__") [.ref e,.str name s.toks]) _ _ _
 refine wpAny_call ?_
 refine codeAny_call_builtin ga.plain PySem.F.entry_bexc_ga ?_
 refine @check_slot (model prog w) _ _ { s with toks:=s.toks + 1 } "BaseException.__getattribute__" "BaseException" "__getattribute__" (.ref e) [.str name s.toks] [] _ (by decide +kernel) (by decide +kernel) ti (PySem.F.args_bexc_ga (.ref e) (.str name s.toks)) ?_
 obtain⟨hh',g,d,t,os⟩:=s
 unfold Builtin.«object.__getattribute__»
 refine wpAny_bind (wpAny_pure (a:=(Value.ref e,[Value.str name t])) ?_)
 refine wpAny_bind (wpAny_pure (a:=name) ?_)
 refine wpAny_bind (L0 _ _ _ _ (fun _ _ e=>e) (wpAny_bind (L1 _ _ _ _ (fun _ _ e=>e) (wpAny_pure ?_))))
 show wpAny _ _ (handedOut v) _ _ _
 rw[handedOut_of hv'];exact wpAny_pure h
end
def AU (K:PySem.W.Frag) (ta:TE) (f:Str):TE:=fun σ H Q=>ta σ H fun x H1=>∃ e C d fs v,x=.ref e∧H1 e=some (jz e (.ref C) (some d))∧H1 d=some (XdO d fs)∧qU K C∧iz K C f∧fs.lookup f=some v∧Q v H1
section
variable {X:Cx} {o:Expr} {f:Str} {pos:Pos} {ta:TE}
theorem zZ (he:PE X o ta) (hb:attributeBase o f X.env (eval o X.env)=eval o X.env):PE X (.Attribute o f pos) (AU X.K ta f):=by
 intro pins s σ H Q I h
 refine AA hb (thn (he pins s σ H _ I h) fun u s1 ⟨x,H1,I1,rx,e,C,d,fs,v,ex,ee,ed,c,n,l,q⟩=>?_)
 subst ex
 obtain rfl:u=Value.ref e:=rx
 obtain⟨oe,vs,g,hc,hdx,hdt⟩:=rY I1.hok ee
 obtain⟨mA,nA,r,_⟩:=pM I1.hok ed
 have rf:=r f
 rw[l] at rf
 obtain⟨u,hu,ru⟩:=k9.some_of rf
 exact wt I1.kIn g hc hdx hdt nA c n hu (vZ ru) ⟨v,H1,I1.tok _,ru,q⟩
end
end L2
namespace L2
open PySem PySem.Spec PyProof.Rows
structure XIs (K:PySem.W.Frag) (C:Addr):Prop extends qU K C where
 ca:PySem.W.findIn K (.ref C) "__class__"=some (some (.builtin "object.__class__"))
 cg:PySem.W.specialIn K (.builtin "object.__class__") "__get__"=some (some (.builtin "getset_descriptor.__get__"))
 ct:PySem.W.takesIn K (.builtin "object.__class__")=some true
 ob:PySem.W.mroIn K C (.type "object")=some true
section
variable {prog:Program} {w:World} {A:Around} {E:Value→Shared→Prop} {s:Shared} {K:PySem.W.Frag} {e C:Addr} {oe:Obj} {od:Option Obj}
open PySem.W in
theorem sH {Q:Option Value→Shared→Prop} (c:XIs K C) (X:K.In s.heap) (I:InstAt s.heap e oe C od) (h:Q (some (.ref C)) { s with toks:=s.toks + 1 }):wpAny (model prog w) A (getAttr? (.ref e) "__class__") Q E s:=by
 have hf:findObj K C od "__class__"=some (.bind (.builtin "getset_descriptor.__get__") (.builtin "object.__class__")):=by
  obtain⟨cd,hc,_⟩:=any_some c.hd
  cases od with
  | some o=>exact findObj_data (by rw[hc];rfl) c.ca c.cg c.ct
  | none=>simp [findObj,hc,c.ca,c.cg,c.ct]
 have ti:Looks (model prog w) s.heap (isInstance (.ref e) (.type "BaseException")) true:=I.type.andThen (looks_mroIn X c.ex)
 have L0:=I.type (M:=model prog w)
 have L1:=looks_find (M:=model prog w) X I hf
 have hb:Looks (model prog w) s.heap (hookBefore (.ref C)) none:=looks_hook X (show (if true=true then findIn K (.ref C) "__getattr__" else some none)=some none from c.gh)
 have ga:=PySem.F.attr_ValueError.ga
 refine wpAny_bind (wpAny_mkText (wpAny_bind (wpAny_attempt (wpAny_holding (wpAny_bind (L0 _ _ _ _ (fun _ _ e=>e) (wpAny_bind (looks_findIn X c.ga _ _ _ _ (fun _ _ e=>e) ?_))))))))
 dsimp only
 rw[show (onTheHeap (Value.ref C) && Value.builtin "BaseException.__getattribute__" == Value.builtin "object.__getattribute__")=false from by rw[show (Value.builtin "BaseException.__getattribute__" == Value.builtin "object.__getattribute__")=false from by decide +kernel,Bool.and_false],if_neg (by decide)]
 refine wpAny_bind (hb _ _ _ _ (fun _ _ e=>e) ?_)
 refine wpAny_bind (wpAny_attempt (wpAny_holding ?_))
 unfold callGetattribute
 rw[if_neg (by decide)]
 unfold boundAndCalled
 rw[ga.bind]
 refine wpAny_bind (wpAny_pure ?_)
 show wpAny _ _ (call (.builtin "BaseException.__getattribute__") [.ref e,.str "__class__" s.toks]) _ _ _
 refine wpAny_call ?_
 refine codeAny_call_builtin ga.plain PySem.F.entry_bexc_ga ?_
 refine @check_slot (model prog w) _ _ { s with toks:=s.toks + 1 } "BaseException.__getattribute__" "BaseException" "__getattribute__" (.ref e) [.str "__class__" s.toks] [] _ (by decide +kernel) (by decide +kernel) ti (PySem.F.args_bexc_ga (.ref e) (.str "__class__" s.toks)) ?_
 obtain⟨hh',g,d,t,os⟩:=s
 unfold Builtin.«object.__getattribute__»
 refine wpAny_bind (wpAny_pure (a:=(Value.ref e,[Value.str "__class__" t])) ?_)
 refine wpAny_bind (wpAny_pure (a:=("__class__":Str)) ?_)
 refine wpAny_bind (L0 _ _ _ _ (fun _ _ e=>e) (wpAny_bind (L1 _ _ _ _ (fun _ _ e=>e) ?_)))
 show wpAny _ _ (Builtin.ObjectAttr.bindTo _ _ _ _) _ _ _
 unfold Builtin.ObjectAttr.bindTo
 refine wpAny_bind (wpAny_holding (wpAny_call (class_get (s:=⟨hh',g,d,t + 1,os⟩) (ox:=oe) (od:=od) X I c.ob (wpAny_pure ?_))))
 show wpAny _ _ (handedOut (.ref C)) _ _ _
 exact handed_on rfl (wpAny_pure h)
open PySem.W in
theorem rT (c:XIs K C):KitX K (.ref e) (.ref C) (fun h=>InstAt h e oe C od) where
 ty:=fun _ _ _ I=>I.type
 it:=fun _ _ X _=>by
  obtain⟨cdD,hcD,_⟩:=any_some c.hd
  obtain⟨_,_,_,ho⟩:=tP hcD
  intro A' Q' E' s' k q
  unfold isType loadHead
  refine wpAny_bind (wpAny_loadPart (k _ _ (X _ _ ho)) ?_)
  exact wpAny_pure q
 ne:=fun h tp dd its n sl X htp=>by
  obtain⟨cdD,hcD,_⟩:=any_some c.hd
  obtain⟨_,_,_,ho⟩:=tP hcD
  refine Bool.eq_false_iff.mpr fun q=>?_
  have e:C=tp:=Value.ref.inj (beq_iff_eq.mp q)
  subst e
  cases (X _ _ ho).symm.trans htp
 ca:=fun X I k=>sH c X I k
end
def XDk (H:Hp):Option Addr→List (Str×V)→Prop
 | some d,gs=>H d=some (XdO d gs)
 | none,gs=>gs=[]
theorem XDk.mono {H H':Hp} (e:∀ b o,H b=some o→H' b=some o):∀ {dx:Option Addr} {gs:List (Str×V)},XDk H dx gs→XDk H' dx gs
 | some _,_,h=>e _ _ h
 | none,_,h=>h
theorem AO {X:Cx} {pins:List (Addr×Obj)} {σ:St} {H:Hp} {s:Shared} {e C:Addr} {dx:Option Addr} {gs:List (Str×V)} (I:Inv X pins σ H s) (he:H e=some (jz e (.ref C) dx)) (hd:XDk H dx gs):∃ oe od,PySem.W.InstAt s.heap e oe C od:=by
 obtain⟨oe,vs,g,hc,hdx,hdt⟩:=rY I.hok he
 cases dx with
 | some d=>
  obtain⟨mA,nA,_⟩:=pM I.hok hd
  obtain⟨od,ho,_⟩:=jI nA
  exact⟨oe,some od,g,hc,by unfold PySem.W.notCls;rw[hdt],by rw[hdx];exact ho⟩
 | none=>exact⟨oe,none,g,hc,by unfold PySem.W.notCls;rw[hdt],by rw[hdx];trivial⟩
end L2
namespace L2
open PySem PySem.Spec PyProof.Rows
def vv:V→Value
 | .ref a=>.ref a
 | .ty n=>.type n
 | _=>.none
def isC:V→Bool
 | .ref _=>true
 | .ty _=>true
 | _=>false
theorem wF {x:V} {u:Value} (h:isC x=true) (r:RelV x u):u=vv x:=by
 cases x with
 | ref a=>exact r
 | ty n=>exact r
 | _=>cases h
theorem wD:∀ {xs:List V} {us:List Value},xs.all isC=true→Vals xs us→us=xs.map vv
 | _,_,_,.nil=>rfl
 | _,_,h,.cons r t=>by
  rw[List.all_cons,Bool.and_eq_true] at h
  rw[wF h.1 r,wD h.2 t];rfl
section
variable {X:Cx}
theorem y3:dM X (.builtin "isinstance") (fun xs H Q=>∃ e C d fs c b,xs=[.ref e,c]∧H e=some (jz e (.ref C) d)∧XDk H d fs∧XIs X.K C∧isC c=true∧PySem.W.kitOne X.K (.ref C) (vv c)=some b∧Q (.bl b) H):=by
 intro pins s σ H xs us Q I r h
 obtain⟨e,C,d,fs,c,b,rfl,he,hd,x,ic,k,q⟩:=h
 obtain⟨u,w',rfl,ru,rw'⟩:=vals2 r
 obtain rfl:u=Value.ref e:=ru
 obtain rfl:=wF ic rw'
 obtain⟨oe,od,J⟩:=AO I he hd
 exact PySem.W.kia_one (rT x) I.kIn J k (fun z=>nomatch z) fun tk=>⟨.bl b,H,I.tok _,rfl,q⟩
theorem wg:dM X (.builtin "isinstance") (fun xs H Q=>∃ e C d fs tp cs b,xs=[.ref e,.ref tp]∧H e=some (jz e (.ref C) d)∧XDk H d fs∧H tp=some (.tup cs)∧XIs X.K C∧cs.all isC=true∧PySem.W.kitAny X.K (.ref C) (cs.map vv)=some b∧Q (.bl b) H):=by
 intro pins s σ H xs us Q I r h
 obtain⟨e,C,d,fs,tp,cs,b,rfl,he,hd,ht,x,ic,k,q⟩:=h
 obtain⟨u,w',rfl,ru,rw'⟩:=vals2 r
 obtain rfl:u=Value.ref e:=ru
 obtain rfl:w'=Value.ref tp:=rw'
 obtain⟨oe,od,J⟩:=AO I he hd
 obtain⟨_,its,rv,p⟩:=(show bX X.prog X.w H s.heap tp (.tup cs) from I.hok tp _ ht)
 obtain⟨⟨oc,od2,odt,osl⟩,h1,h2,n,h3⟩:=p
 obtain rfl:oc=.type "tuple":=h2
 obtain rfl:odt=.seq its.toArray n:=h3
 rw[← wD ic rv] at k
 exact PySem.W.kia_tup (rT x) I.kIn J h1 k (fun z=>nomatch z) fun tk=>⟨.bl b,H,I.tok _,rfl,q⟩
end
end L2
namespace L3
open PySem L2
def Gu (o:Obj) (c:Addr) (q:Str):Prop:=∃ fd,o.data=.func fd∧fd.code=.ref c∧fd.qualname=q
inductive D where
 | non | bl (b:Bool) | int (i:Int) | str (x:Str) | lst (xs:List D) | tup (xs:List D) | ktup (xs:List D) | ins (C:Addr) (ns:List Str) (xs:List D) | scr (ns:List Int) | ty (n:String) | adr (a:Addr) | cel (p:Addr) (xs:List D) | exc (C:Addr) (ns:List Str) (xs:List D) | dct | dcs (k:Str) (i:Int) | fn (o:Unit→Obj) (f:Addr) (v:V) (r:D) | obj (p:Addr) (c:Option Addr)
def AM (F:Hp) (p:Addr):Option Addr→Prop
 | some C=>∃ dx,F p=some (.ins C dx [])
 | none=>F p=some (.dK [])
theorem AM.to {F F':Hp} {p:Addr} (e:∀ o,F p=some o→(∀ vs,o≠.lst vs)→F' p=some o):∀ {c:Option Addr},AM F p c→AM F' p c
 | some _,⟨dx,h⟩=>⟨dx,e _ h fun _ z=>by cases z⟩
 | none,h=>e _ h fun _ z=>by cases z
mutual
def Rep (K:PySem.W.Frag) (F:Hp):D→V→Prop
 | .non,v=>v=.non
 | .bl b,v=>v=.bl b
 | .int i,v=>v=.int i
 | .str x,v=>v=.str x
 | .ty n,v=>v=.ty n
 | .adr a,v=>v=.ref a
 | .cel p xs,v=>v=.ref p∧∃ vs,F p=some (.lst vs)∧aA K F xs vs
 | .scr ns,v=>∃ p,v=.ref p∧SqL K F p (ns.map V.int)
 | .lst xs,v=>∃ p vs,v=.ref p∧F p=some (.lst vs)∧aA K F xs vs
 | .tup xs,v=>∃ p vs,v=.ref p∧F p=some (.tup vs)∧aA K F xs vs
 | .ktup xs,v=>∃ p vs,v=.ref p∧SqT K F p vs∧aA K F xs vs
 | .ins C ns xs,v=>∃ p dx gs,v=.ref p∧F p=some (.ins C dx gs)∧gs.map (·.1)=ns∧aA K F xs (gs.map (·.2))
 | .dct,v=>∃ p,v=.ref p∧F p=some (.dK [])
 | .dcs k i,v=>∃ p,v=.ref p∧F p=some (.dK [(.inr k,.int i)])
 | .exc C ns xs,v=>∃ p d gs,v=.ref p∧F p=some (jz p (.ref C) d)∧XDk F d gs∧gs.map (·.1)=ns∧aA K F xs (gs.map (·.2))
 | .fn o f v r,x=>x=.ref f∧(∃ c q,F f=some (.frz (o ()) (.cod c q))∧Gu (o ()) c q)∧Rep K F r v
 | .obj p c,v=>v=.ref p∧AM F p c
def aA (K:PySem.W.Frag) (F:Hp):List D→List V→Prop
 | [],vs=>vs=[]
 | x::xs,vs=>∃ v ws,vs=v::ws∧Rep K F x v∧aA K F xs ws
end
theorem SqT.same {K:PySem.W.Frag} {H H':Hp} {a:Addr} {xs:List V} (e:aG H H') (h:SqT K H a xs):SqT K H' a xs:=by
 rcases h with (h | ⟨o,h⟩) | h
 ·exact .inl (.inl (e _ _ h))
 ·exact .inl (.inr ⟨o,e _ _ h⟩)
 ·exact .inr h
mutual
theorem Rep.mono {K:PySem.W.Frag} {F F':Hp} (e:aG F F'):∀ {d:D} {v:V},Rep K F d v→Rep K F' d v
 | .non,_,h=>h
 | .bl _,_,h=>h
 | .int _,_,h=>h
 | .str _,_,h=>h
 | .ty _,_,h=>h
 | .adr _,_,h=>h
 | .cel _ _,_,⟨h1,vs,h2,h3⟩=>⟨h1,vs,e _ _ h2,aA.mono e h3⟩
 | .scr _,_,⟨p,h1,h2⟩=>⟨p,h1,e.seq h2⟩
 | .lst _,_,⟨p,vs,h1,h2,h3⟩=>⟨p,vs,h1,e _ _ h2,aA.mono e h3⟩
 | .tup _,_,⟨p,vs,h1,h2,h3⟩=>⟨p,vs,h1,e _ _ h2,aA.mono e h3⟩
 | .ktup _,_,⟨p,vs,h1,h2,h3⟩=>⟨p,vs,h1,SqT.same e h2,aA.mono e h3⟩
 | .ins _ _ _,_,⟨p,dx,gs,h1,h2,h3,h4⟩=>⟨p,dx,gs,h1,e _ _ h2,h3,aA.mono e h4⟩
 | .dct,_,⟨p,h1,h2⟩=>⟨p,h1,e _ _ h2⟩
 | .dcs _ _,_,⟨p,h1,h2⟩=>⟨p,h1,e _ _ h2⟩
 | .exc _ _ _,_,⟨p,dx,gs,h1,h2,h5,h3,h4⟩=>⟨p,dx,gs,h1,e _ _ h2,h5.mono e,h3,aA.mono e h4⟩
 | .fn _ _ _ _,_,⟨h1,⟨c,q,h2,h4⟩,h3⟩=>⟨h1,⟨c,q,e _ _ h2,h4⟩,Rep.mono e h3⟩
 | .obj _ _,_,⟨h1,h2⟩=>⟨h1,h2.to fun _ h _=>e _ _ h⟩
theorem aA.mono {K:PySem.W.Frag} {F F':Hp} (e:aG F F'):∀ {xs:List D} {vs:List V},aA K F xs vs→aA K F' xs vs
 | [],_,h=>h
 | _::_,_,⟨v,ws,h1,h2,h3⟩=>⟨v,ws,h1,Rep.mono e h2,aA.mono e h3⟩
end
end L3
namespace L3
open PySem L2
inductive Sl where
 | fz (d:D) | ow (d:D) | ln (d:D)
abbrev G:=List (Option Sl)
inductive RV where
 | fz (d:D) | fr (d:D) | two (xs ys:List D) | rws (xss:List (List D))
def RV.pl:RV→Bool
 | .fz _=>true
 | .fr _=>true
 | _=>false
def RV.d:RV→D
 | .fz d=>d
 | .fr d=>d
 | .two xs ys=>.tup [.lst xs,.lst ys]
 | .rws xss=>.lst (xss.map .lst)
def RV.sl:RV→Sl
 | .fz d=>.fz d
 | .fr d=>.ow d
 | .two xs ys=>.fz (.tup [.lst xs,.lst ys])
 | .rws xss=>.ow (.lst (xss.map .lst))
structure Bs where
 F:Hp
 H:Hp
 own:List (Nat×Addr)
def Own (K:PySem.W.Frag) (F H:Hp) (p:Addr):D→Prop
 | .lst xs=>∃ vs,H p=some (.lst vs)∧aA K F xs vs
 | .cel q xs=>p=q∧∃ vs,H p=some (.lst vs)∧aA K F xs vs
 | .ins C ns xs=>∃ dx gs,H p=some (.ins C dx gs)∧gs.map (·.1)=ns∧aA K F xs (gs.map (·.2))
 | _=>False
theorem Own.mono {K:PySem.W.Frag} {F F' H H':Hp} {p:Addr} (e:aG F F') (h:H' p=H p):∀ {d:D},Own K F H p d→Own K F' H' p d
 | .lst _,⟨vs,a,b⟩=>⟨vs,h.trans a,b.mono e⟩
 | .cel _ _,⟨z,vs,a,b⟩=>⟨z,vs,h.trans a,b.mono e⟩
 | .ins _ _ _,⟨dx,gs,a,b,c⟩=>⟨dx,gs,h.trans a,b,c.mono e⟩
theorem Own.some {K:PySem.W.Frag} {F H:Hp} {p:Addr}:∀ {d:D},Own K F H p d→∃ o,H p=some o
 | .lst _,⟨_,a,_⟩=>⟨_,a⟩
 | .cel _ _,⟨_,_,a,_⟩=>⟨_,a⟩
 | .ins _ _ _,⟨_,_,a,_⟩=>⟨_,a⟩
theorem Own.rep {K:PySem.W.Frag} {F H:Hp} {p:Addr} {o:HO} (hF:F p=none) (ho:H p=Option.some o):∀ {d:D},Own K F H p d→Rep K (upd F p o) d (.ref p)
 | .lst _,⟨vs,a,b⟩=>by
  rw[ho] at a;cases a
  exact⟨p,vs,rfl,au,b.mono fun x u e=>by rw[ah (bj e hF)];exact e⟩
 | .cel _ _,⟨z,vs,a,b⟩=>by
  rw[ho] at a;cases a
  subst z
  exact⟨rfl,vs,au,b.mono fun x u e=>by rw[ah (bj e hF)];exact e⟩
 | .ins _ _ _,⟨dx,gs,a,b,c⟩=>by
  rw[ho] at a;cases a
  exact⟨p,dx,gs,rfl,au,b,c.mono fun x u e=>by rw[ah (bj e hF)];exact e⟩
def Hld (Γ:G) (i:Nat) (d:D):Prop:=Γ[i]?=some (some (Sl.ow d))∨Γ[i]?=some (some (Sl.ln d))
structure En (K:PySem.W.Frag) (B:Bs) (F:Hp) (σ:St) (H:Hp) (Γ:G):Prop where
 sub:aG F H
 len:σ.length=Γ.length
 fz:∀ (i:Nat) (d:D),Γ[i]?=some (some (Sl.fz d))→∃ v,σ[i]?=some (some v)∧Rep K F d v
 hl:∀ (i:Nat) (d:D),Hld Γ i d→∃ p,σ[i]?=some (some (V.ref p))∧F p=none∧Own K F H p d
 ow:∀ (i:Nat) (d:D) (p:Addr),Γ[i]?=some (some (Sl.ow d))→σ[i]?=some (some (V.ref p))→B.H p=none
 ln:∀ (i:Nat) (d:D) (p:Addr),Γ[i]?=some (some (Sl.ln d))→σ[i]?=some (some (V.ref p))→(i,p)∈B.own
 dis:∀ (i j:Nat) (d e:D) (p:Addr),Hld Γ i d→Hld Γ j e→σ[i]?=some (some (V.ref p))→σ[j]?=some (some (V.ref p))→i=j
 par:∀ (i:Nat) (p:Addr),(i,p)∈B.own→σ[i]?=some (some (V.ref p))∧∃ d,Γ[i]?=some (some (Sl.ln d))
 keep:aG B.F F
 new:∀ (b:Addr) (o:HO),F b=some o→B.F b=some o∨B.H b=none
 rest:∀ (b:Addr) (o:HO),B.H b=some o→(∀ i,(i,b)∉B.own)→H b=some o
 dom:∀ b,H b=none→B.H b=none
section
variable {K:PySem.W.Frag} {B:Bs} {F:Hp} {σ:St} {H:Hp} {Γ:G}
theorem En.alloc (e:En K B F σ H Γ) {l:Addr} (hl:H l=none) (o:HO):En K B F σ (upd H l o) Γ where
 sub:=fun b u h=>by rw[ah (bj (e.sub b u h) hl)];exact e.sub b u h
 len:=e.len
 fz:=e.fz
 hl:=fun i d h=>by
  obtain⟨p,h1,h2,h3⟩:=e.hl i d h
  obtain⟨u,hu⟩:=h3.some
  exact⟨p,h1,h2,h3.mono (aG.refl F) (ah (bj hu hl))⟩
 ow:=e.ow
 ln:=e.ln
 dis:=e.dis
 par:=e.par
 keep:=e.keep
 new:=e.new
 rest:=fun b u h n=>by rw[ah (bj (e.rest b u h n) hl)];exact e.rest b u h n
 dom:=fun b h=>by
  by_cases q:b=l
  ·subst q;exact e.dom _ hl
  ·rw[ah q] at h;exact e.dom b h
theorem aV {F:Hp} {l:Addr} {o:HO} (h:F l=none):aG F (upd F l o):=fun b u e=>by rw[ah (bj e h)];exact e
theorem En.freeze (e:En K B F σ H Γ) {l:Addr} {o:HO} (hF:F l=none) (hH:H l=some o) (hB:B.H l=none) (hn:∀ (i:Nat) (d:D),Hld Γ i d→σ[i]?≠some (some (V.ref l))):En K B (upd F l o) σ H Γ where
 sub:=fun b u h=>by
  by_cases q:b=l
  ·subst q;rw[au] at h;cases h;exact hH
  ·rw[ah q] at h;exact e.sub b u h
 len:=e.len
 fz:=fun i d h=>by
  obtain⟨v,h1,h2⟩:=e.fz i d h
  exact⟨v,h1,h2.mono (aV hF)⟩
 hl:=fun i d h=>by
  obtain⟨p,h1,h2,h3⟩:=e.hl i d h
  have q:p≠l:=fun z=>hn i d h (z ▸ h1)
  exact⟨p,h1,by rw[ah q];exact h2,h3.mono (aV hF) rfl⟩
 ow:=e.ow
 ln:=e.ln
 dis:=e.dis
 par:=e.par
 keep:=e.keep.trans (aV hF)
 new:=fun b u h=>by
  by_cases q:b=l
  ·subst q;exact .inr hB
  ·rw[ah q] at h;exact e.new b u h
 rest:=e.rest
 dom:=e.dom
def jy (K:PySem.W.Frag) (F H:Hp):List Addr→List (List D)→Prop
 | [],xss=>xss=[]
 | q::qs,xss=>∃ xs xt vs,xss=xs::xt∧H q=some (.lst vs)∧aA K F xs vs∧jy K F H qs xt
theorem jy.mono {F F' H H':Hp} (s:aG F F'):∀ {qs:List Addr} {xss:List (List D)},(∀ q∈qs,H' q=H q)→jy K F H qs xss→jy K F' H' qs xss
 | [],_,_,h=>h
 | q::qs,_,e,⟨xs,xt,vs,h1,h2,h3,h4⟩=>⟨xs,xt,vs,h1,(e q (.head _)).trans h2,h3.mono s,jy.mono s (fun z hz=>e z (.tail _ hz)) h4⟩
def k8 (K:PySem.W.Frag) (B:Bs) (F:Hp) (σ:St) (H:Hp) (Γ:G) (v:V):RV→Prop
 | .fz d=>Rep K F d v
 | .fr d=>∃ p,v=.ref p∧F p=none∧Own K F H p d∧B.H p=none∧∀ (i:Nat) (e:D),Hld Γ i e→σ[i]?≠some (some (V.ref p))
 | .rws xss=>∃ p qs,v=.ref p∧H p=some (.lst (qs.map V.ref))∧(p::qs).Nodup∧jy K F H qs xss∧∀ z,z∈p::qs→F z=none∧B.H z=none∧∀ (i:Nat) (e:D),Hld Γ i e→σ[i]?≠some (some (V.ref z))
 | .two xs ys=>∃ t p q vs ws,v=.ref t∧H t=some (.tup [.ref p,.ref q])∧H p=some (.lst vs)∧H q=some (.lst ws)∧aA K F xs vs∧aA K F ys ws∧p≠q∧∀ z,z=t∨z=p∨z=q→F z=none∧B.H z=none∧∀ (i:Nat) (e:D),Hld Γ i e→σ[i]?≠some (some (V.ref z))
theorem En.uQ:∀ {qs:List Addr} {xss:List (List D)} {F:Hp},En K B F σ H Γ→jy K F H qs xss→qs.Nodup→(∀ z∈qs,F z=none∧B.H z=none∧∀ (i:Nat) (e:D),Hld Γ i e→σ[i]?≠some (some (V.ref z)))→
  ∃ F',aG F F'∧En K B F' σ H Γ∧aA K F' (xss.map .lst) (qs.map V.ref)∧∀ z,z∉qs→F' z=F z
 | [],_,F,e,h,_,_=>by cases h;exact⟨F,aG.refl F,e,rfl,fun _ _=>rfl⟩
 | q::qs,_,F,e,⟨xs,xt,vs,h1,h2,h3,h4⟩,nd,hn=>by
  subst h1
  obtain⟨n1,n2⟩:=List.nodup_cons.mp nd
  obtain⟨a1,a2,a3⟩:=hn q (.head _)
  have e1:=e.freeze a1 h2 a2 a3
  have s1:=aV (o:=.lst vs) a1
  obtain⟨F',s',e',r',k'⟩:=En.uQ (qs:=qs) e1 (h4.mono s1 fun _ _=>rfl) n2 fun z hz=>by
   obtain⟨b1,b2,b3⟩:=hn z (.tail _ hz)
   exact⟨by rw[ah (a:=q) (b:=z) (fun w=>n1 (by rw[← w];exact hz))];exact b1,b2,b3⟩
  refine⟨F',s1.trans s',e',⟨_,_,rfl,⟨q,vs,rfl,s' _ _ au,h3.mono (s1.trans s')⟩,r'⟩,fun z hz=>?_⟩
  rw[List.mem_cons,not_or] at hz
  rw[k' z hz.2,ah hz.1]
theorem En.uk (e:En K B F σ H Γ) {p:Addr} {qs:List Addr} {xss:List (List D)} (hp:H p=some (.lst (qs.map V.ref))) (nd:(p::qs).Nodup) (r:jy K F H qs xss) (hn:∀ z,z∈p::qs→F z=none∧B.H z=none∧∀ (i:Nat) (e:D),Hld Γ i e→σ[i]?≠some (some (V.ref z))) :
  ∃ F',aG F F'∧En K B F' σ H Γ∧F' p=none∧Own K F' H p (.lst (xss.map .lst)):=by
 obtain⟨n1,n2⟩:=List.nodup_cons.mp nd
 obtain⟨F',s',e',r',k'⟩:=e.uQ r n2 fun z hz=>hn z (.tail _ hz)
 exact⟨F',s',e',(k' p n1).trans (hn p (.head _)).1,_,hp,r'⟩
theorem En.frozen (e:En K B F σ H Γ) {v:V}:∀ {r:RV},k8 K B F σ H Γ v r→∃ F',aG F F'∧En K B F' σ H Γ∧Rep K F' r.d v
 | .fz d,h=>⟨F,aG.refl F,e,h⟩
 | .fr d,⟨p,hv,h1,h2,h3,h4⟩=>by
  subst hv
  obtain⟨o,ho⟩:=h2.some
  exact⟨upd F p o,aV h1,e.freeze h1 ho h3 h4,h2.rep h1 ho⟩
 | .rws xss,⟨p,qs,hv,h1,h2,h3,h4⟩=>by
  subst hv
  obtain⟨F',s',e',f',o'⟩:=e.uk h1 h2 h3 h4
  obtain⟨_,b2,b3⟩:=h4 p (.head _)
  exact⟨_,s'.trans (aV f'),e'.freeze f' h1 b2 b3,o'.rep f' h1⟩
 | .two xs ys,⟨t,p,q,vs,ws,hv,h1,h2,h3,h4,h5,h6,h7⟩=>by
  subst hv
  obtain⟨a1,a2,a3⟩:=h7 t (.inl rfl)
  obtain⟨b1,b2,b3⟩:=h7 p (.inr (.inl rfl))
  obtain⟨c1,c2,c3⟩:=h7 q (.inr (.inr rfl))
  have tp:t≠p:=fun z=>by rw[z,h2] at h1;cases h1
  have tq:t≠q:=fun z=>by rw[z,h3] at h1;cases h1
  have e1:=e.freeze b1 h2 b2 b3
  have f2:upd F p (.lst vs) q=none:=by rw[ah (Ne.symm h6)];exact c1
  have e2:=e1.freeze f2 h3 c2 c3
  have f3:upd (upd F p (.lst vs)) q (.lst ws) t=none:=by rw[ah tq,ah tp];exact a1
  have e3:=e2.freeze f3 h1 a2 a3
  have s1:=aV (o:=.lst vs) b1
  have s2:=aV (o:=.lst ws) f2
  have s3:=aV (o:=.tup [.ref p,.ref q]) f3
  exact⟨_,(s1.trans s2).trans s3,e3,t,_,rfl,au,⟨_,_,rfl,⟨p,vs,rfl,by rw[ah (Ne.symm tp),ah h6];exact au,(h4.mono ((s1.trans s2).trans s3))⟩,_,_,rfl,⟨q,ws,rfl,by rw[ah (Ne.symm tq)];exact au,h5.mono ((s1.trans s2).trans s3)⟩,rfl⟩⟩
theorem En.norm (e:En K B F σ H Γ) {v:V}:∀ {r:RV},k8 K B F σ H Γ v r→∃ F' r',aG F F'∧En K B F' σ H Γ∧k8 K B F' σ H Γ v r'∧r'.sl=r.sl∧r'.pl=true
 | .fz d,h=>⟨F,.fz d,aG.refl F,e,h,rfl,rfl⟩
 | .fr d,h=>⟨F,.fr d,aG.refl F,e,h,rfl,rfl⟩
 | .rws xss,⟨p,qs,hv,h1,h2,h3,h4⟩=>by
  subst hv
  obtain⟨F',s',e',f',o'⟩:=e.uk h1 h2 h3 h4
  obtain⟨_,b2,b3⟩:=h4 p (.head _)
  exact⟨F',.fr (.lst (xss.map .lst)),s',e',⟨p,rfl,f',o',b2,b3⟩,rfl,rfl⟩
 | .two xs ys,h=>by
  obtain⟨F',s,e',r⟩:=e.frozen h
  exact⟨F',.fz (.tup [.lst xs,.lst ys]),s,e',r,rfl,rfl⟩
def Po (K:PySem.W.Frag) (B:Bs) (F:Hp) (σ:St) (Q:RV→G→Prop):VK:=fun v H'=>∃ F' Γ' r,aG F F'∧En K B F' σ H' Γ'∧k8 K B F' σ H' Γ' v r∧Q r Γ'
abbrev TE3:=G→(RV→G→Prop)→Prop
def Ref (K:PySem.W.Frag) (t:TE) (t3:TE3):Prop:=∀ (B:Bs) (F:Hp) (σ:St) (H:Hp) (Γ:G) (Q:RV→G→Prop) (QQ:VK),En K B F σ H Γ→t3 Γ Q→(∀ v H',Po K B F σ Q v H'→QQ v H')→t σ H QQ
theorem Po.mono {F F':Hp} {Q:RV→G→Prop} {v:V} {H:Hp} (s:aG F F') (h:Po K B F' σ Q v H):Po K B F σ Q v H:=by
 obtain⟨F2,Γ',r,a,b⟩:=h
 exact⟨F2,Γ',r,s.trans a,b⟩
theorem gn (e:En K B F σ H Γ) {Q:RV→G→Prop} {v:V} {d:D} (r:Rep K F d v) (q:Q (.fz d) Γ):Po K B F σ Q v H:=⟨F,Γ,.fz d,aG.refl F,e,r,q⟩
theorem En.rL (e:En K B F σ H Γ) {l:Addr} (hl:H l=none):∀ (i:Nat) (d:D),Hld Γ i d→σ[i]?≠some (some (V.ref l)):=fun i d h z=>by
 obtain⟨p,h1,h2,h3⟩:=e.hl i d h
 rw[h1] at z;cases z
 obtain⟨o,ho⟩:=h3.some
 rw[hl] at ho;cases ho
theorem En.nof (e:En K B F σ H Γ) {l:Addr} (hl:H l=none):F l=none:=by
 cases q:F l with
 | none=>rfl
 | some o=>have:=e.sub _ _ q;rw[hl] at this;cases this
theorem jE (e:En K B F σ H Γ) {Q:RV→G→Prop} {l:Addr} {vs:List V} {xs:List D} (hl:H l=none) (r:aA K F xs vs) (q:Q (.fr (.lst xs)) Γ):Po K B F σ Q (.ref l) (upd H l (.lst vs)):=
 ⟨F,Γ,.fr (.lst xs),aG.refl F,e.alloc hl _,⟨l,rfl,e.nof hl,⟨vs,au,r⟩,e.dom _ hl,e.rL hl⟩,q⟩
theorem zU (e:En K B F σ H Γ) {Q:RV→G→Prop} {l:Addr} {vs:List V} {xs:List D} (hl:H l=none) (r:aA K F xs vs) (q:Q (.fz (.tup xs)) Γ):Po K B F σ Q (.ref l) (upd H l (.tup vs)):=
 ⟨upd F l (.tup vs),Γ,.fz (.tup xs),aV (e.nof hl),(e.alloc hl _).freeze (e.nof hl) au (e.dom _ hl) (e.rL hl),⟨l,vs,rfl,au,r.mono (aV (e.nof hl))⟩,q⟩
def q8 (i:Nat) (Γ:G) (Q:RV→G→Prop):Prop:=match Γ[i]? with
 | some (some (.fz d))=>Q (.fz d) Γ
 | some (some (.ow d))=>Q (.fz d) (Γ.set i (some (Sl.fz d)))
 | _=>False
theorem bW {α:Type} {l:List α} {i j:Nat} {a:α} (h:i≠j):(l.set i a)[j]?=l[j]?:=by rw[List.getElem?_set,if_neg h]
theorem nJ {α:Type} {l:List α} {i:Nat} {a b:α} (h:l[i]?=some b):(l.set i a)[i]?=some a:=by
 rw[List.getElem?_set,if_pos rfl,if_pos (List.getElem?_eq_some_iff.mp h).1]
theorem En.give (e:En K B F σ H Γ) {i:Nat} {d:D} (h:Γ[i]?=some (some (Sl.ow d))):∃ F' p,aG F F'∧σ[i]?=some (some (V.ref p))∧Rep K F' d (.ref p)∧En K B F' σ H (Γ.set i (some (Sl.fz d))):=by
 obtain⟨p,h1,h2,h3⟩:=e.hl i d (.inl h)
 obtain⟨o,ho⟩:=h3.some
 have hr:=h3.rep h2 ho
 have back:∀ {j u},j≠i→(Γ.set i (some (Sl.fz d)))[j]?=u→Γ[j]?=u:=fun hj q=>by rw[bW (Ne.symm hj)] at q;exact q
 have hld:∀ {j x},Hld (Γ.set i (some (Sl.fz d))) j x→j≠i∧Hld Γ j x:=fun {j x} q=>by
  by_cases z:j=i
  ·subst z
   rcases q with q | q <;> rw[nJ h] at q <;> cases q
  ·exact⟨z,q.imp (back z) (back z)⟩
 refine⟨upd F p o,p,aV h2,h1,hr,?_,?_,?_,?_,?_,?_,?_,?_,?_,?_,e.rest,e.dom⟩
 ·intro b u q
  by_cases z:b=p
  ·subst z;rw[au] at q;cases q;exact ho
  ·rw[ah z] at q;exact e.sub b u q
 ·rw[List.length_set];exact e.len
 ·intro j x q
  by_cases z:j=i
  ·subst z
   rw[nJ h] at q;cases q
   exact⟨_,h1,hr⟩
  ·obtain⟨v,a,b⟩:=e.fz j x (back z q)
   exact⟨v,a,b.mono (aV h2)⟩
 ·intro j x q
  obtain⟨z,q⟩:=hld q
  obtain⟨p',a,b,c⟩:=e.hl j x q
  have ne:p'≠p:=fun y=>z (e.dis j i x d p q (.inl h) (y ▸ a) h1)
  exact⟨p',a,by rw[ah ne];exact b,c.mono (aV h2) rfl⟩
 ·intro j x p' q a
  obtain⟨z,_⟩:=hld (.inl q)
  exact e.ow j x p' (back z q) a
 ·intro j x p' q a
  obtain⟨z,_⟩:=hld (.inr q)
  exact e.ln j x p' (back z q) a
 ·intro j k x y p' q1 q2
  exact e.dis j k x y p' (hld q1).2 (hld q2).2
 ·intro j p' q
  obtain⟨a,y,b⟩:=e.par j p' q
  have z:j≠i:=fun z=>by subst z;rw[h] at b;cases b
  exact⟨a,y,by rw[bW (Ne.symm z)];exact b⟩
 ·exact e.keep.trans (aV h2)
 ·intro b u q
  by_cases z:b=p
  ·subst z;exact .inr (e.ow i d _ h h1)
  ·rw[ah z] at q;exact e.new b u q
theorem zG (i:Nat):Ref K (iQ i) (q8 i):=by
 intro B F σ H Γ Q QQ e h k
 unfold q8 at h
 split at h
 ·rename_i d q
  obtain⟨v,h1,h2⟩:=e.fz i d q
  exact⟨v,h1,k _ _ (gn e h2 h)⟩
 ·rename_i d q
  obtain⟨F',p,s,h1,h2,e'⟩:=e.give q
  exact⟨_,h1,k _ _ ⟨F',_,.fz d,s,e',h2,h⟩⟩
 ·exact h.elim
def t3C (d:D) (Γ:G) (Q:RV→G→Prop):Prop:=Q (.fz d) Γ
theorem oO {v:V} {d:D} (h:∀ F,Rep K F d v):Ref K (tC v) (t3C d):=fun B F σ H Γ Q QQ e q k=>k _ _ (gn e (h F) q)
inductive Bo where
 | d (x:D) | v (i:Nat)
def bare:D→D
 | .cel _ xs=>.lst xs
 | .non=>.non
 | .bl b=>.bl b
 | .int i=>.int i
 | .str x=>.str x
 | .lst xs=>.lst xs
 | .tup xs=>.tup xs
 | .ktup xs=>.ktup xs
 | .ins C ns xs=>.ins C ns xs
 | .scr ns=>.scr ns
 | .ty n=>.ty n
 | .adr a=>.adr a
 | .exc C ns xs=>.exc C ns xs
 | .dct=>.dct
 | .dcs k i=>.dcs k i
 | .fn o f v r=>.fn o f v r
 | .obj p C=>.obj p C
def Gat (Γ:G) (i:Nat):Option D:=match Γ[i]? with
 | some (some (.fz d))=>some d
 | some (some (.ow d))=>some (bare d)
 | some (some (.ln d))=>some (bare d)
 | _=>none
def Bo.at (Γ:G):Bo→Option D
 | .d x=>some x
 | .v i=>Gat Γ i
def mf (K:PySem.W.Frag) (F:Hp) (σ:St):Bo→V→Prop
 | .d x,v=>Rep K F x v
 | .v i,v=>σ[i]?=some (some v)
def gf (K:PySem.W.Frag) (F H:Hp):D→V→Prop
 | .lst xs,v=>∃ p vs,v=.ref p∧H p=some (.lst vs)∧aA K F xs vs
 | .cel q xs,v=>v=.ref q∧∃ vs,H q=some (.lst vs)∧aA K F xs vs
 | .ins C ns xs,v=>∃ p dx gs,v=.ref p∧H p=some (.ins C dx gs)∧gs.map (·.1)=ns∧aA K F xs (gs.map (·.2))
 | d,v=>Rep K F d v
theorem Rep.b {K:PySem.W.Frag} {F H:Hp} (s:aG F H):∀ {d:D} {v:V},Rep K F d v→gf K F H d v
 | .non,_,h=>h
 | .bl _,_,h=>h
 | .int _,_,h=>h
 | .str _,_,h=>h
 | .ty _,_,h=>h
 | .adr _,_,h=>h
 | .exc _ _ _,_,h=>h
 | .dct,_,h=>h
 | .dcs _ _,_,h=>h
 | .fn _ _ _ _,_,h=>h
 | .obj _ _,_,h=>h
 | .cel _ _,_,⟨h1,vs,h2,h3⟩=>⟨h1,vs,s _ _ h2,h3⟩
 | .scr _,_,h=>h
 | .tup _,_,h=>h
 | .ktup _,_,h=>h
 | .lst _,_,⟨p,vs,h1,h2,h3⟩=>⟨p,vs,h1,s _ _ h2,h3⟩
 | .ins _ _ _,_,⟨p,dx,gs,h1,h2,h3,h4⟩=>⟨p,dx,gs,h1,s _ _ h2,h3,h4⟩
theorem Own.b {K:PySem.W.Frag} {F H:Hp} {p:Addr}:∀ {d:D},Own K F H p d→gf K F H (bare d) (.ref p)
 | .lst _,⟨vs,h1,h2⟩=>⟨p,vs,rfl,h1,h2⟩
 | .cel _ _,⟨z,vs,h1,h2⟩=>by subst z;exact⟨_,vs,rfl,h1,h2⟩
 | .ins _ _ _,⟨dx,gs,h1,h2,h3⟩=>⟨p,dx,gs,rfl,h1,h2,h3⟩
theorem mf.mono {F F':Hp} (s:aG F F'):∀ {bo:Bo} {v:V},mf K F σ bo v→mf K F' σ bo v
 | .d _,_,h=>Rep.mono s h
 | .v _,_,h=>h
theorem En.get (e:En K B F σ H Γ) {i:Nat} {d:D} (h:Gat Γ i=some d):∃ v,σ[i]?=some (some v)∧gf K F H d v:=by
 unfold Gat at h
 split at h
 ·cases h
  rename_i q
  obtain⟨v,h1,h2⟩:=e.fz i _ q
  exact⟨v,h1,h2.b e.sub⟩
 ·cases h
  rename_i q
  obtain⟨p,h1,h2,h3⟩:=e.hl i _ (.inl q)
  exact⟨_,h1,h3.b⟩
 ·cases h
  rename_i q
  obtain⟨p,h1,h2,h3⟩:=e.hl i _ (.inr q)
  exact⟨_,h1,h3.b⟩
 ·cases h
theorem En.bo (e:En K B F σ H Γ):∀ {bo:Bo} {v:V} {d:D},mf K F σ bo v→bo.at Γ=some d→gf K F H d v
 | .d x,v,d,h,q=>by cases q;exact Rep.b e.sub h
 | .v i,v,d,h,q=>by
  obtain⟨u,h1,h2⟩:=e.get q
  rw[show σ[i]?=some (some v) from h] at h1
  cases h1
  exact h2
abbrev TB3:=G→(Bo→G→Prop)→Prop
def PoB (K:PySem.W.Frag) (B:Bs) (F:Hp) (σ:St) (Q:Bo→G→Prop):VK:=fun v H'=>∃ F' Γ' bo,aG F F'∧En K B F' σ H' Γ'∧mf K F' σ bo v∧Q bo Γ'
def n9 (K:PySem.W.Frag) (t:TE) (t3:TB3):Prop:=∀ (B:Bs) (F:Hp) (σ:St) (H:Hp) (Γ:G) (Q:Bo→G→Prop) (QQ:VK),En K B F σ H Γ→t3 Γ Q→(∀ v H',PoB K B F σ Q v H'→QQ v H')→t σ H QQ
def bor (i:Nat) (Γ:G) (Q:Bo→G→Prop):Prop:=(∃ d,Gat Γ i=some d)∧Q (.v i) Γ
def bof (a3:TE3) (Γ:G) (Q:Bo→G→Prop):Prop:=a3 Γ fun x Γ1=>Q (.d x.d) Γ1
theorem w_ (i:Nat):n9 K (iQ i) (bor i):=by
 intro B F σ H Γ Q QQ e ⟨⟨d,hd⟩,q⟩ k
 obtain⟨v,h1,_⟩:=e.get hd
 exact⟨v,h1,k _ _ ⟨F,Γ,.v i,aG.refl F,e,h1,q⟩⟩
theorem zF {t:TE} {a3:TE3} (h:Ref K t a3):n9 K t (bof a3):=by
 intro B F σ H Γ Q QQ e q k
 refine h B F σ H Γ _ _ e q (fun v H1 ⟨F1,Γ1,x,s1,e1,r1,q1⟩=>?_)
 obtain⟨F1',s1',e1',r1'⟩:=e1.frozen r1
 exact k _ _ ⟨F1',Γ1,.d x.d,s1.trans s1',e1',r1',q1⟩
def j6 (K:PySem.W.Frag) (r:R2) (op:D→D→TE3):Prop:=∀ (B:Bs) (F:Hp) (σ:St) (H:Hp) (Γ:G) (x y:V) (dx dy:D) (Q:RV→G→Prop) (QQ:VK),En K B F σ H Γ→gf K F H dx x→gf K F H dy y→op dx dy Γ Q→(∀ v H',Po K B F σ Q v H'→QQ v H')→r x y H QQ
def kz (op:D→D→TE3) (a3 b3:TB3) (Γ:G) (Q:RV→G→Prop):Prop:=a3 Γ fun x Γ1=>b3 Γ1 fun y Γ2=>∃ dx dy,x.at Γ2=some dx∧y.at Γ2=some dy∧op dx dy Γ2 Q
theorem fK {r:R2} {ta tb:TE} {a3 b3:TB3} {op:D→D→TE3} (h:j6 K r op) (ha:n9 K ta a3) (hb:n9 K tb b3):Ref K (tOp r ta tb) (kz op a3 b3):=by
 intro B F σ H Γ Q QQ e q k
 refine ha B F σ H Γ _ _ e q (fun v H1 ⟨F1,Γ1,x,s1,e1,r1,q1⟩=>?_)
 refine hb B F1 σ H1 Γ1 _ _ e1 q1 (fun u H2 ⟨F2,Γ2,y,s2,e2,r2,dx,dy,h1,h2,q2⟩=>?_)
 exact h B F2 σ H2 Γ2 v u dx dy Q QQ e2 (e2.bo (r1.mono s2) h1) (e2.bo r2 h2) q2 fun z H3 p=>k z H3 (p.mono (s1.trans s2))
def vp (op:D→TE3) (a3:TB3) (Γ:G) (Q:RV→G→Prop):Prop:=a3 Γ fun x Γ1=>∃ dx,x.at Γ1=some dx∧op dx Γ1 Q
def Gm (K:PySem.W.Frag) (r:V→Hp→VK→Prop) (op:D→TE3):Prop:=∀ (B:Bs) (F:Hp) (σ:St) (H:Hp) (Γ:G) (x:V) (dx:D) (Q:RV→G→Prop) (QQ:VK),En K B F σ H Γ→gf K F H dx x→op dx Γ Q→(∀ v H',Po K B F σ Q v H'→QQ v H')→r x H QQ
theorem sV {r:V→Hp→VK→Prop} {ta:TE} {a3:TB3} {op:D→TE3} (h:Gm K r op) (ha:n9 K ta a3):Ref K (fun σ H Q=>ta σ H fun x H1=>r x H1 Q) (vp op a3):=by
 intro B F σ H Γ Q QQ e q k
 refine ha B F σ H Γ _ _ e q (fun v H1 ⟨F1,Γ1,x,s1,e1,r1,dx,h1,q1⟩=>?_)
 exact h B F1 σ H1 Γ1 v dx Q QQ e1 (e1.bo r1 h1) q1 fun z H3 p=>k z H3 (p.mono s1)
end
end L3
namespace L3
open PySem L2 PySem.Spec PyProof.Rows
structure P3 (K:PySem.W.Frag) (X:Cx) (e:Expr) (t:TE) (t3:TE3):Prop where
 pe:PE X e t
 rf:Ref K t t3
structure P3B (K:PySem.W.Frag) (X:Cx) (e:Expr) (t:TE) (t3:TB3):Prop where
 pe:PE X e t
 rf:n9 K t t3
section
variable {K:PySem.W.Frag} {X:Cx} {a b c:Expr} {ta tb tc:TE} {a3 b3 c3:TB3} {pos:Pos}
theorem P3.opd {e3:TE3} (h:P3 K X a ta e3):P3B K X a ta (bof e3):=⟨h.pe,zF h.rf⟩
theorem bv (i:Nat) {x:Str} {pos:Pos} (hN:X.N[i]?=some x:=by rfl) (hv:Vis X.env.scope x:=by first | exact Or.inl rfl | exact Or.inr (Or.inl rfl) | exact Or.inr (Or.inr rfl)) (hd:(x == ("__debug__":Str))=false:=by decide)
  (hcd:(x == ("__classdict__":Str))=false:=by decide):P3B K X (.Name x pos) (iQ i) (bor i):=⟨cL hN hv hd hcd,w_ i⟩
theorem i_ {B:Bs} {F:Hp} {σ:L2.St} {H:Hp} {Γ:G} {Q:RV→G→Prop} {i:Int} (e:En K B F σ H Γ) (q:Q (.fz (.int i)) Γ):Po K B F σ Q (.int i) H:=gn (d:=.int i) e rfl q
theorem xl {B:Bs} {F:Hp} {σ:L2.St} {H:Hp} {Γ:G} {Q:RV→G→Prop} {i:Str} (e:En K B F σ H Γ) (q:Q (.fz (.str i)) Γ):Po K B F σ Q (.str i) H:=gn (d:=.str i) e rfl q
theorem iC {B:Bs} {F:Hp} {σ:L2.St} {H:Hp} {Γ:G} {Q:RV→G→Prop} {i:Bool} (e:En K B F σ H Γ) (q:Q (.fz (.bl i)) Γ):Po K B F σ Q (.bl i) H:=gn (d:=.bl i) e rfl q
theorem p3v (i:Nat) {x:Str} {pos:Pos} (hN:X.N[i]?=some x:=by rfl) (hv:Vis X.env.scope x:=by first | exact Or.inl rfl | exact Or.inr (Or.inl rfl) | exact Or.inr (Or.inr rfl)) (hd:(x == ("__debug__":Str))=false:=by decide)
  (hcd:(x == ("__classdict__":Str))=false:=by decide):P3 K X (.Name x pos) (iQ i) (q8 i):=⟨cL hN hv hd hcd,zG i⟩
theorem af {i j pos}:P3 K X (.Constant (.int i) j pos) (tC (.int i)) (t3C (.int i)):=⟨sZ,oO fun _=>rfl⟩
theorem gX {i j pos}:P3 K X (.Constant (.bool i) j pos) (tC (.bl i)) (t3C (.bl i)):=⟨ET,oO fun _=>rfl⟩
theorem qo {j pos}:P3 K X (.Constant .none j pos) (tC .non) (t3C .non):=⟨C2,oO fun _=>rfl⟩
theorem bg {x j pos}:P3 K X (.Constant (.str x) j pos) (tC (.str x)) (t3C (.str x)):=⟨qh,oO fun _=>rfl⟩
theorem uz {x:Str} {i:Int} {pos:Pos} (hg:Gl X x) (hm:∃ t,X.mg x=some (.int i t)) (hd:(x == ("__debug__":Str))=false:=by decide):P3 K X (.Name x pos) (tC (.int i)) (t3C (.int i)):=
 ⟨let ⟨t,hm⟩:=hm;qi (v:=.int i) hg hm ⟨t,rfl⟩ hd,oO fun _=>rfl⟩
theorem xF {x y v:Int} {j k:Nat} {pos pos' pos'':Pos} (h:x ^ y.toNat=v) (hc:wk x y):P3 K X (.BinOp (.Constant (.int x) j pos') .Pow (.Constant (.int y) k pos'') pos) (tOp (rI wk fun i j=>.int (i ^ j.toNat)) (tC (.int x)) (tC (.int y))) (t3C (.int v)):=
 ⟨jR Di sZ sZ,fun B F σ H Γ Q QQ e q k=>⟨x,y,rfl,rfl,hc,by show QQ (.int (x ^ y.toNat)) H;rw[h];exact k _ _ (i_ e q)⟩⟩
def i2 (C:Int→Int→Prop) (f:Int→Int→D) (x y:D) (Γ:G) (Q:RV→G→Prop):Prop:=match x,y with
 | .int i,.int j=>C i j∧Q (.fz (f i j)) Γ
 | _,_=>False
def i2' (f:Int→Int→D) (x y:D) (Γ:G) (Q:RV→G→Prop):Prop:=match x,y with
 | .int i,.int j=>Q (.fz (f i j)) Γ
 | _,_=>False
theorem opI {C:Int→Int→Prop} {f:Int→Int→D} {g:Int→Int→V} (h:∀ F i j,Rep K F (f i j) (g i j)):j6 K (rI C g) (i2 C f):=by
 intro B F σ H Γ x y dx dy Q QQ e rx ry q k
 unfold i2 at q
 split at q
 ·cases rx;cases ry
  exact⟨_,_,rfl,rfl,q.1,k _ _ (gn e (h F _ _) q.2)⟩
 ·exact q.elim
theorem mv {f:Int→Int→D} {g:Int→Int→V} (h:∀ F i j,Rep K F (f i j) (g i j)):j6 K (rI0 g) (i2' f):=by
 intro B F σ H Γ x y dx dy Q QQ e rx ry q k
 unfold i2' at q
 split at q
 ·cases rx;cases ry
  exact⟨_,_,rfl,rfl,k _ _ (gn e (h F _ _) q)⟩
 ·exact q.elim
def zi (x y:D) (Γ:G) (Q:RV→G→Prop):Prop:=match x,y with
 | .int i,.int j=>Q (.fz (.int (i + j))) Γ
 | .lst xs,.lst ys=>xs.length + ys.length≤sizeLine∧Q (.fr (.lst (xs++ys))) Γ
 | .str i,.str j=>i.length + j.length≤sizeLine∧Q (.fz (.str (i++j))) Γ
 | _,_=>False
theorem aA.length {F:Hp}:∀ {xs:List D} {vs:List V},aA K F xs vs→vs.length=xs.length
 | [],_,h=>by cases h;rfl
 | _::_,_,⟨v,ws,h1,h2,h3⟩=>by subst h1;simp [h3.length]
theorem aA.append {F:Hp}:∀ {xs ys:List D} {vs ws:List V},aA K F xs vs→aA K F ys ws→aA K F (xs++ys) (vs++ws)
 | [],_,_,_,h,h'=>by cases h;exact h'
 | _::_,_,_,_,⟨v,ws,h1,h2,h3⟩,h'=>by subst h1;exact⟨v,_,rfl,h2,h3.append h'⟩
theorem aA.get {F:Hp}:∀ {xs:List D} {vs:List V},aA K F xs vs→∀ {i:Nat} {d:D},xs[i]?=some d→∃ v,vs[i]?=some v∧Rep K F d v
 | [],_,_,i,d,e=>by simp at e
 | x::xs,_,⟨v,ws,h1,h2,h3⟩,0,d,e=>by subst h1;simp at e;subst e;exact⟨v,rfl,h2⟩
 | x::xs,_,⟨v,ws,h1,h2,h3⟩,i + 1,d,e=>by
  subst h1
  obtain⟨u,a,b⟩:=h3.get (i:=i) (d:=d) (by simpa using e)
  exact⟨u,by simpa using a,b⟩
theorem aA.yu {F:Hp}:∀ {xs:List D} {vs:List V},aA K F xs vs→∀ {i:Nat} {v:V},vs[i]?=some v→∃ d,xs[i]?=some d∧Rep K F d v:=fun {xs vs} h {i v} e=>by
 have hi:i < vs.length:=(List.getElem?_eq_some_iff.mp e).1
 rw[h.length] at hi
 obtain⟨u,a,b⟩:=h.get (List.getElem?_eq_getElem hi)
 rw[e] at a;cases a
 exact⟨_,List.getElem?_eq_getElem hi,b⟩
theorem aA.take {F:Hp}:∀ {xs:List D} {vs:List V} (n:Nat),aA K F xs vs→aA K F (xs.take n) (vs.take n)
 | _,_,0,_=>by simp [aA]
 | [],_,n + 1,h=>by cases h;simp [aA]
 | x::xs,_,n + 1,⟨v,ws,h1,h2,h3⟩=>by subst h1;exact⟨v,_,rfl,h2,aA.take n h3⟩
theorem aA.drop {F:Hp}:∀ {xs:List D} {vs:List V} (n:Nat),aA K F xs vs→aA K F (xs.drop n) (vs.drop n)
 | _,_,0,h=>h
 | [],_,n + 1,h=>by cases h;simp [aA]
 | x::xs,_,n + 1,⟨v,ws,h1,h2,h3⟩=>by subst h1;exact aA.drop n h3
theorem aA.set {F:Hp} {d:D} {v:V} (r:Rep K F d v):∀ {xs:List D} {vs:List V} (n:Nat),aA K F xs vs→aA K F (xs.set n d) (vs.set n v)
 | [],_,_,h=>by cases h;simp [aA]
 | x::xs,_,0,⟨u,ws,h1,h2,h3⟩=>by subst h1;exact⟨v,ws,rfl,r,h3⟩
 | x::xs,_,n + 1,⟨u,ws,h1,h2,h3⟩=>by subst h1;exact⟨u,_,rfl,h2,aA.set r n h3⟩
theorem aA.ints {F:Hp}:∀ (ns:List Int),aA K F (ns.map D.int) (ns.map V.int)
 | []=>rfl
 | n::ns=>⟨_,_,rfl,rfl,aA.ints ns⟩
theorem aA.rV {F:Hp}:∀ {ns:List Int} {vs:List V},aA K F (ns.map D.int) vs→vs=ns.map V.int
 | [],_,h=>h
 | n::ns,_,⟨v,ws,h1,h2,h3⟩=>by
  rw[h1,aA.rV h3]
  have:v=.int n:=h2
  rw[this];rfl
abbrev CK:R2:=fun x y H Q=>rI0 (fun i j=>.int (i + j)) x y H Q∨EK x y H Q∨(∃ i j,x=.str i∧y=.str j∧i.length + j.length≤sizeLine∧Q (.str (i++j)) H)
theorem Ac:OpR X (binaryOp .Add) CK:=Dt.or (Dr.or s8)
theorem addRef:j6 K CK zi:=by
 intro B F σ H Γ x y dx dy Q QQ e rx ry q k
 unfold zi at q
 split at q
 ·cases rx;cases ry
  exact .inl ⟨_,_,rfl,rfl,k _ _ (i_ e q)⟩
 ·obtain⟨p,vs,rfl,h1,h2⟩:=rx
  obtain⟨p',ws,rfl,h3,h4⟩:=ry
  refine .inr (.inl ⟨p,p',vs,ws,rfl,rfl,h1,h3,by rw[h2.length,h4.length];exact q.1,fun l hl=>k _ _ (jE e hl (h2.append h4) q.2)⟩)
 ·cases rx;cases ry
  exact .inr (.inr ⟨_,_,rfl,rfl,q.1,k _ _ (xl e q.2)⟩)
 ·exact q.elim
theorem aJ (ha:P3B K X a ta a3) (hb:P3B K X b tb b3):P3 K X (.BinOp a .Add b pos) (tOp CK ta tb) (kz zi a3 b3):=⟨jR Ac ha.pe hb.pe,fK addRef ha.rf hb.rf⟩
theorem gO (ha:P3B K X a ta a3) (hb:P3B K X b tb b3):P3 K X (.BinOp a .Sub b pos) (tOp (rI0 fun i j=>.int (i - j)) ta tb) (kz (i2' fun i j=>.int (i - j)) a3 b3):=⟨jR Df ha.pe hb.pe,fK (mv fun _ _ _=>rfl) ha.rf hb.rf⟩
theorem cM (ha:P3B K X a ta a3) (hb:P3B K X b tb b3):P3 K X (.BinOp a .Mult b pos) (tOp (rI sF fun i j=>.int (i * j)) ta tb) (kz (i2 sF fun i j=>.int (i * j)) a3 b3):=⟨jR Dl ha.pe hb.pe,fK (opI fun _ _ _=>rfl) ha.rf hb.rf⟩
theorem dq (ha:P3B K X a ta a3) (hb:P3B K X b tb b3):P3 K X (.BinOp a .FloorDiv b pos) (tOp (rI mE fun i j=>.int (i / j)) ta tb) (kz (i2 mE fun i j=>.int (i / j)) a3 b3):=⟨jR Ab ha.pe hb.pe,fK (opI fun _ _ _=>rfl) ha.rf hb.rf⟩
theorem lE (ha:P3B K X a ta a3) (hb:P3B K X b tb b3):P3 K X (.BinOp a .Mod b pos) (tOp (rI (fun _ j=>0 < j) fun i j=>.int (i % j)) ta tb) (kz (i2 (fun _ j=>0 < j) fun i j=>.int (i % j)) a3 b3):=⟨jR Dm ha.pe hb.pe,fK (opI fun _ _ _=>rfl) ha.rf hb.rf⟩
def wa (f:Int→Int→Bool) (x y:D) (Γ:G) (Q:RV→G→Prop):Prop:=i2' (fun i j=>.bl (f i j)) x y Γ Q
abbrev qB (i j:Int):Bool:=decide (i < j)
abbrev yE (i j:Int):Bool:=decide (i≤j)
abbrev GV (i j:Int):Bool:=decide (j < i)
abbrev DS (i j:Int):Bool:=decide (j≤i)
structure C3 (K:PySem.W.Frag) (X:Cx) (op:CmpOp) (r:R2) (o3:D→D→TE3):Prop where
 op:OpR X (compareOp op) r
 rf:j6 K r o3
theorem sj:C3 K X .Lt (rI0 fun i j=>.bl (decide (i < j))) (wa qB):=⟨E4,mv fun _ _ _=>rfl⟩
theorem y_:C3 K X .LtE (rI0 fun i j=>.bl (decide (i≤j))) (wa yE):=⟨E5,mv fun _ _ _=>rfl⟩
theorem FP:C3 K X .Gt (rI0 fun i j=>.bl (decide (j < i))) (wa GV):=⟨E6,mv fun _ _ _=>rfl⟩
theorem FQ:C3 K X .GtE (rI0 fun i j=>.bl (decide (j≤i))) (wa DS):=⟨E7,mv fun _ _ _=>rfl⟩
def kA (o3 o3':D→D→TE3) (a3 b3 c3:TB3) (Γ:G) (Q:RV→G→Prop):Prop:=a3 Γ fun x Γ1=>b3 Γ1 fun y Γ2=>∃ dx dy,x.at Γ2=some dx∧y.at Γ2=some dy∧o3 dx dy Γ2 fun z Γ3=>match z with
 | .fz (.bl true)=>c3 Γ3 fun w Γ4=>∃ dy dw,y.at Γ4=some dy∧w.at Γ4=some dw∧o3' dy dw Γ4 Q
 | .fz (.bl false)=>Q (.fz (.bl false)) Γ3
 | _=>False
theorem oM {r r':R2} {o3 o3':D→D→TE3} (h:j6 K r o3) (h':j6 K r' o3') (ha:n9 K ta a3) (hb:n9 K tb b3) (hc:n9 K tc c3):Ref K (mT r r' ta tb tc) (kA o3 o3' a3 b3 c3):=by
 intro B F σ H Γ Q QQ e q k
 refine ha B F σ H Γ _ _ e q (fun v H1 ⟨F1,Γ1,x,s1,e1,r1,q1⟩=>?_)
 refine hb B F1 σ H1 Γ1 _ _ e1 q1 (fun u H2 ⟨F2,Γ2,y,s2,e2,r2,dx,dy,h1,h2,q2⟩=>?_)
 refine h B F2 σ H2 Γ2 v u dx dy _ _ e2 (e2.bo (r1.mono s2) h1) (e2.bo r2 h2) q2 fun z H3 ⟨F3,Γ3,z3,s3,e3,r3,q3⟩=>?_
 have sall:=(s1.trans s2).trans s3
 revert r3 q3
 split
 ·intro r3 q3
  refine⟨true,r3,?_⟩
  rw[if_pos rfl]
  refine hc B F3 σ H3 Γ3 _ _ e3 q3 (fun w H4 ⟨F4,Γ4,w3,s4,e4,r4,dy,dw,h3,h4,q4⟩=>?_)
  exact h' B F4 σ H4 Γ4 u w dy dw Q QQ e4 (e4.bo (r2.mono (s3.trans s4)) h3) (e4.bo r4 h4) q4 fun z H5 p=>k z H5 (p.mono (sall.trans s4))
 ·intro r3 q3
  refine⟨false,r3,?_⟩
  rw[if_neg (by simp)]
  exact k _ _ (Po.mono sall (iC e3 q3))
 ·intro _ q3;exact q3.elim
theorem xH {op op':CmpOp} {r r':R2} {o3 o3':D→D→TE3} (h:C3 K X op r o3) (h':C3 K X op' r' o3') (ha:P3B K X a ta a3) (hb:P3B K X b tb b3) (hc:P3B K X c tc c3) (hm:lastMarks [op,op'] [b,c]=false:=by with_unfolding_all rfl) :
  P3 K X (.Compare a [op,op'] [b,c] pos) (mT r r' ta tb tc) (kA o3 o3' a3 b3 c3):=⟨xx h.op h'.op ha.pe hb.pe hc.pe hm,oM h.rf h'.rf ha.rf hb.rf hc.rf⟩
def Aj (x:D) (Γ:G) (Q:RV→G→Prop):Prop:=match x with
 | .int i=>Q (.fz (.int (-i))) Γ
 | _=>False
theorem kb (ha:P3B K X a ta a3):P3 K X (.UnaryOp .USub a pos) (tUn (rU fun i=>.int (-i)) ta) (vp Aj a3):=⟨ER Ci ha.pe,sV (r:=rU fun i=>.int (-i)) (ta:=ta) (by
 intro B F σ H Γ x dx Q QQ e rx q k
 unfold Aj at q
 split at q
 ·cases rx
  exact⟨_,rfl,k _ _ (i_ e q)⟩
 ·exact q.elim) ha.rf⟩
end
end L3
namespace L3
open PySem L2 PySem.Spec
abbrev TT3:=G→(Bool→G→Prop)→Prop
def PoT (K:PySem.W.Frag) (B:Bs) (F:Hp) (σ:L2.St) (Q:Bool→G→Prop):Bool→Hp→Prop:=fun b H'=>∃ F' Γ',aG F F'∧En K B F' σ H' Γ'∧Q b Γ'
def mD (K:PySem.W.Frag) (t:TT) (t3:TT3):Prop:=∀ (B:Bs) (F:Hp) (σ:L2.St) (H:Hp) (Γ:G) (Q:Bool→G→Prop) (QQ:Bool→Hp→Prop),En K B F σ H Γ→t3 Γ Q→(∀ b H',PoT K B F σ Q b H'→QQ b H')→t σ H QQ
structure P3T (K:PySem.W.Frag) (X:Cx) (e:Expr) (t:TT) (t3:TT3):Prop where
 pe:PT X e t
 rf:mD K t t3
structure P3W (K:PySem.W.Frag) (X:Cx) (e:Expr) (t:TT) (t3:TT3):Prop where
 pe:PW X e t
 rf:mD K t t3
section
variable {K:PySem.W.Frag} {X:Cx} {a b c:Expr} {ta tb tc:TE} {a3 b3 c3:TE3} {a3' b3' c3':TB3} {pos:Pos} {tA tB':TT} {A3 B3:TT3} {rest:List Expr}
def tst (a3:TE3) (Γ:G) (Q:Bool→G→Prop):Prop:=a3 Γ fun x Γ1=>match x.d with
 | .bl k=>Q k Γ1
 | _=>False
theorem PoT.mono {B:Bs} {F F':Hp} {σ:L2.St} {H:Hp} {Q:Bool→G→Prop} {k:Bool} (s:aG F F') (h:PoT K B F' σ Q k H):PoT K B F σ Q k H:=by
 obtain⟨F2,Γ',a,b⟩:=h
 exact⟨F2,Γ',s.trans a,b⟩
theorem xc (h:Ref K ta a3):mD K (fun σ H Q=>ta σ H fun x H1=>∃ c,x=.bl c∧Q c H1) (tst a3):=by
 intro B F σ H Γ Q QQ e q k
 refine h B F σ H Γ _ _ e q (fun v H1 ⟨F1,Γ1,x,s1,e1,r1,q1⟩=>?_)
 obtain⟨F1',s1',e1',r1'⟩:=e1.frozen r1
 revert r1' q1
 split
 ·rename_i hz
  intro q1 r1'
  rw[hz] at r1'
  exact⟨_,r1',k _ _ ⟨F1',Γ1,s1.trans s1',e1',q1⟩⟩
 ·intro q1;exact q1.elim
theorem bR {e:Expr} {t:TE} {e3:TE3} (h:P3 K X e t e3) (he:∀ whole,isTrue e X.env whole=(do let v ← whole;standAt e.pos;holding [v] (truthy v)):=by intro _;rfl):P3T K X e (tB t) (tst e3):=⟨CN h.pe he,xc h.rf⟩
theorem bx {op:CmpOp} {r:R2} {o3:D→D→TE3} (h:C3 K X op r o3) (ha:P3B K X a ta a3') (hb:P3B K X b tb b3') (hm:behindInMarks op b=false):P3T K X (.Compare a [op] [b] pos) (t9 (tOp r ta tb)) (tst (kz o3 a3' b3')):=
 ⟨zO h.op ha.pe hb.pe hm,xc (fK h.rf ha.rf hb.rf)⟩
theorem vJ {op op':CmpOp} {r r':R2} {o3 o3':D→D→TE3} (h:C3 K X op r o3) (h':C3 K X op' r' o3') (ha:P3B K X a ta a3') (hb:P3B K X b tb b3') (hc:P3B K X c tc c3') (hm:lastMarks [op,op'] [b,c]=false:=by with_unfolding_all rfl) :
  P3T K X (.Compare a [op,op'] [b,c] pos) (t9 (mT r r' ta tb tc)) (tst (kA o3 o3' a3' b3' c3')):=⟨xi h.op h'.op ha.pe hb.pe hc.pe hm,xc (oM h.rf h'.rf ha.rf hb.rf hc.rf)⟩
def D6 (A3 B3:TT3) (Γ:G) (Q:Bool→G→Prop):Prop:=A3 Γ fun c Γ1=>match c with
 | true=>B3 Γ1 Q
 | false=>Q false Γ1
def or3 (A3 B3:TT3) (Γ:G) (Q:Bool→G→Prop):Prop:=A3 Γ fun c Γ1=>match c with
 | true=>Q true Γ1
 | false=>B3 Γ1 Q
def Dv (A3:TT3) (Γ:G) (Q:Bool→G→Prop):Prop:=A3 Γ fun c Γ1=>Q (!c) Γ1
theorem zL (ha:mD K tA A3) (hb:mD K tB' B3):mD K (Cu tA tB') (D6 A3 B3):=by
 intro B F σ H Γ Q QQ e q k
 refine ha B F σ H Γ _ _ e q (fun c H1 ⟨F1,Γ1,s1,e1,q1⟩=>?_)
 cases c with
 | true=>exact vU (hb B F1 σ H1 Γ1 _ _ e1 q1 fun c H2 p=>k _ _ (p.mono s1))
 | false=>exact vV (k _ _ ⟨F1,Γ1,s1,e1,q1⟩)
theorem CF (ha:mD K tA A3) (hb:mD K tB' B3):mD K (tOr tA tB') (or3 A3 B3):=by
 intro B F σ H Γ Q QQ e q k
 refine ha B F σ H Γ _ _ e q (fun c H1 ⟨F1,Γ1,s1,e1,q1⟩=>?_)
 cases c with
 | true=>exact vU (k _ _ ⟨F1,Γ1,s1,e1,q1⟩)
 | false=>exact vV (hb B F1 σ H1 Γ1 _ _ e1 q1 fun c H2 p=>k _ _ (p.mono s1))
theorem zI (ha:mD K tA A3):mD K (Cr tA) (Dv A3):=by
 intro B F σ H Γ Q QQ e q k
 exact ha B F σ H Γ _ _ e q (fun c H1 ⟨F1,Γ1,s1,e1,q1⟩=>k _ _ ⟨F1,Γ1,s1,e1,q1⟩)
theorem nj (ha:P3T K X a tA A3):P3W K X (.BoolOp .And [a] pos) tA A3:=⟨zN ha.pe,ha.rf⟩
theorem qk (ha:P3T K X a tA A3):P3W K X (.BoolOp .Or [a] pos) tA A3:=⟨CL ha.pe,ha.rf⟩
theorem ql (ha:P3T K X a tA A3) (hb:P3W K X (.BoolOp .And (b::rest) pos) tB' B3):P3W K X (.BoolOp .And (a::b::rest) pos) (Cu tA tB') (D6 A3 B3):=⟨CM ha.pe hb.pe,zL ha.rf hb.rf⟩
theorem ng (ha:P3T K X a tA A3) (hb:P3W K X (.BoolOp .Or (b::rest) pos) tB' B3):P3W K X (.BoolOp .Or (a::b::rest) pos) (tOr tA tB') (or3 A3 B3):=⟨EL ha.pe hb.pe,CF ha.rf hb.rf⟩
theorem P3W.pt {e:Expr} (h:P3W K X e tA A3):P3T K X e tA A3:=⟨h.pe.pt,h.rf⟩
theorem cE (ha:P3T K X a tA A3):P3T K X (.UnaryOp .Not a pos) (Cr tA) (Dv A3):=⟨CO ha.pe,zI ha.rf⟩
def zg (a3 b3'':TE3) (Γ:G) (Q:RV→G→Prop):Prop:=a3 Γ fun x Γ1=>match x.d with
 | .bl true=>b3'' Γ1 Q
 | .bl false=>Q (.fz (.bl false)) Γ1
 | _=>False
def EX (a3 b3'':TE3) (Γ:G) (Q:RV→G→Prop):Prop:=a3 Γ fun x Γ1=>match x.d with
 | .bl true=>Q (.fz (.bl true)) Γ1
 | .bl false=>b3'' Γ1 Q
 | _=>False
def xQ (a3:TE3) (Γ:G) (Q:RV→G→Prop):Prop:=a3 Γ fun x Γ1=>match x.d with
 | .bl k=>Q (.fz (.bl (!k))) Γ1
 | _=>False
theorem C9 {op} (h:P3 K X a ta a3):P3 K X (.BoolOp op [a] pos) ta a3:=⟨CZ h.pe,h.rf⟩
theorem Dd (ha:P3 K X a ta a3) (hb:P3 K X (.BoolOp .And (b::rest) pos) tb b3):P3 K X (.BoolOp .And (a::b::rest) pos) (AZ ta tb) (zg a3 b3):=⟨C5 ha.pe hb.pe,by
 intro B F σ H Γ Q QQ e q k
 refine ha.rf B F σ H Γ _ _ e q (fun v H1 ⟨F1,Γ1,x,s1,e1,r1,q1⟩=>?_)
 obtain⟨F1',s1',e1',r1'⟩:=e1.frozen r1
 revert r1' q1
 split
 ·rename_i hz
  intro q1 r1'
  rw[hz] at r1'
  exact⟨true,r1',vU (hb.rf B F1' σ H1 Γ1 _ _ e1' q1 fun v H2 p=>k _ _ (p.mono (s1.trans s1')))⟩
 ·rename_i hz
  intro q1 r1'
  rw[hz] at r1'
  exact⟨false,r1',vV (k _ _ (Po.mono (s1.trans s1') (iC e1' q1)))⟩
 ·intro q1;exact q1.elim⟩
theorem C_ (ha:P3 K X a ta a3):P3 K X (.UnaryOp .Not a pos) (AX ta) (xQ a3):=⟨C1 ha.pe,by
 intro B F σ H Γ Q QQ e q k
 refine ha.rf B F σ H Γ _ _ e q (fun v H1 ⟨F1,Γ1,x,s1,e1,r1,q1⟩=>?_)
 obtain⟨F1',s1',e1',r1'⟩:=e1.frozen r1
 revert r1' q1
 split
 ·rename_i hz
  intro q1 r1'
  rw[hz] at r1'
  exact⟨_,r1',k _ _ (Po.mono (s1.trans s1') (iC e1' q1))⟩
 ·intro q1;exact q1.elim⟩
def if3 (A3:TT3) (a3 b3:TE3) (Γ:G) (Q:RV→G→Prop):Prop:=A3 Γ fun c Γ1=>match c with
 | true=>a3 Γ1 Q
 | false=>b3 Γ1 Q
theorem xG {c:Expr} (hc:P3T K X c tA A3) (ha:P3 K X a ta a3) (hb:P3 K X b tb b3):P3 K X (.IfExp c a b pos) (tIf tA ta tb) (if3 A3 a3 b3):=⟨xv hc.pe ha.pe hb.pe,by
 intro B F σ H Γ Q QQ e q k
 refine hc.rf B F σ H Γ _ _ e q (fun c H1 ⟨F1,Γ1,s1,e1,q1⟩=>?_)
 cases c with
 | true=>exact vU (ha.rf B F1 σ H1 Γ1 _ _ e1 q1 fun v H2 p=>k _ _ (p.mono s1))
 | false=>exact vV (hb.rf B F1 σ H1 Γ1 _ _ e1 q1 fun v H2 p=>k _ _ (p.mono s1))⟩
end
abbrev TA3:=G→(List D→G→Prop)→Prop
def PoA (K:PySem.W.Frag) (B:Bs) (F:Hp) (σ:L2.St) (Q:List D→G→Prop):List V→Hp→Prop:=fun vs H'=>∃ F' Γ' ds,aG F F'∧En K B F' σ H' Γ'∧aA K F' ds vs∧Q ds Γ'
def Gr (K:PySem.W.Frag) (t:TA) (t3:TA3):Prop:=∀ (B:Bs) (F:Hp) (σ:L2.St) (H:Hp) (Γ:G) (Q:List D→G→Prop) (QQ:List V→Hp→Prop),En K B F σ H Γ→t3 Γ Q→(∀ vs H',PoA K B F σ Q vs H'→QQ vs H')→t σ H QQ
structure P3A (K:PySem.W.Frag) (X:Cx) (es:List Expr) (t:TA) (t3:TA3):Prop where
 pe:PA X es t
 rf:Gr K t t3
section
variable {K:PySem.W.Frag} {X:Cx} {e:Expr} {es:List Expr} {te:TE} {e3:TE3} {t:TA} {t3:TA3} {pos:Pos}
def xU (Γ:G) (Q:List D→G→Prop):Prop:=Q [] Γ
def j5 (e3:TE3) (t3:TA3) (Γ:G) (Q:List D→G→Prop):Prop:=e3 Γ fun x Γ1=>t3 Γ1 fun xs Γ2=>Q (x.d::xs) Γ2
theorem aj:P3A K X [] mR xU:=⟨ja,fun B F σ H Γ Q QQ e q k=>k _ _ ⟨F,Γ,[],aG.refl F,e,rfl,q⟩⟩
theorem ab (ha:P3 K X e te e3) (hr:P3A K X es t t3) (hs:starEach (e::es) X.env=(false,eval e X.env)::starEach es X.env:=by rfl):P3A K X (e::es) (mS te t) (j5 e3 t3):=⟨cT ha.pe hr.pe hs,by
 intro B F σ H Γ Q QQ e q k
 refine ha.rf B F σ H Γ _ _ e q (fun v H1 ⟨F1,Γ1,x,s1,e1,r1,q1⟩=>?_)
 obtain⟨F1',s1',e1',r1'⟩:=e1.frozen r1
 refine hr.rf B F1' σ H1 Γ1 _ _ e1' q1 (fun vs H2 ⟨F2,Γ2,ds,s2,e2,r2,q2⟩=>?_)
 exact k _ _ ⟨F2,Γ2,x.d::ds,(s1.trans s1').trans s2,e2,⟨v,vs,rfl,r1'.mono s2,r2⟩,q2⟩⟩
def Ff (t3:TA3) (Γ:G) (Q:RV→G→Prop):Prop:=t3 Γ fun xs Γ1=>xs.length≤sizeLine∧Q (.fr (.lst xs)) Γ1
def wI (t3:TA3) (Γ:G) (Q:RV→G→Prop):Prop:=t3 Γ fun xs Γ1=>xs.length≤sizeLine∧Q (.fz (.tup xs)) Γ1
theorem a8 (h:P3A K X es t t3):P3 K X (.List es pos) (Ep t) (Ff t3):=⟨C4 h.pe,by
 intro B F σ H Γ Q QQ e q k
 refine h.rf B F σ H Γ _ _ e q (fun vs H1 ⟨F1,Γ1,ds,s1,e1,r1,q1⟩=>?_)
 exact⟨by rw[r1.length];exact q1.1,fun p hp=>k _ _ (Po.mono s1 (jE e1 hp r1 q1.2))⟩⟩
theorem cy {x1} (h:P3A K X es t t3):P3 K X (.Tuple es x1 pos) (El t) (wI t3):=⟨CY h.pe,by
 intro B F σ H Γ Q QQ e q k
 refine h.rf B F σ H Γ _ _ e q (fun vs H1 ⟨F1,Γ1,ds,s1,e1,r1,q1⟩=>?_)
 exact⟨by rw[r1.length];exact q1.1,fun p hp=>k _ _ (Po.mono s1 (zU e1 hp r1 q1.2))⟩⟩
end
abbrev cq:=G→(List Bo→G→Prop)→Prop
def gc (K:PySem.W.Frag) (F:Hp) (σ:L2.St):List Bo→List V→Prop
 | [],vs=>vs=[]
 | b::bs,vs=>∃ v ws,vs=v::ws∧mf K F σ b v∧gc K F σ bs ws
def mh (K:PySem.W.Frag) (F H:Hp):List D→List V→Prop
 | [],vs=>vs=[]
 | d::ds,vs=>∃ v ws,vs=v::ws∧gf K F H d v∧mh K F H ds ws
def ats (Γ:G):List Bo→Option (List D)
 | []=>some []
 | b::bs=>match b.at Γ,ats Γ bs with
  | some d,some ds=>some (d::ds)
  | _,_=>none
def G9 (K:PySem.W.Frag) (B:Bs) (F:Hp) (σ:L2.St) (Q:List Bo→G→Prop):List V→Hp→Prop:=fun vs H'=>∃ F' Γ' bs,aG F F'∧En K B F' σ H' Γ'∧gc K F' σ bs vs∧Q bs Γ'
def pI (K:PySem.W.Frag) (t:TA) (t3:cq):Prop:=∀ (B:Bs) (F:Hp) (σ:L2.St) (H:Hp) (Γ:G) (Q:List Bo→G→Prop) (QQ:List V→Hp→Prop),En K B F σ H Γ→t3 Γ Q→(∀ vs H',G9 K B F σ Q vs H'→QQ vs H')→t σ H QQ
structure oy (K:PySem.W.Frag) (X:Cx) (es:List Expr) (t:TA) (t3:cq):Prop where
 pe:PA X es t
 rf:pI K t t3
section
variable {K:PySem.W.Frag} {X:Cx} {e:Expr} {es:List Expr} {te:TE} {e3:TB3} {t:TA} {t3:cq} {pos:Pos} {B:Bs} {F H:Hp} {σ:L2.St} {Γ:G}
theorem En.bos (e:En K B F σ H Γ):∀ {bs:List Bo} {vs:List V} {ds:List D},gc K F σ bs vs→ats Γ bs=some ds→mh K F H ds vs
 | [],_,_,h,q=>by cases q;exact h
 | b::bs,_,_,⟨v,ws,h1,h2,h3⟩,q=>by
  unfold ats at q
  split at q
  ·rename_i d ds hd hds
   cases q
   exact⟨v,ws,h1,e.bo h2 hd,e.bos h3 hds⟩
  ·cases q
def Ah (Γ:G) (Q:List Bo→G→Prop):Prop:=Q [] Γ
def BZ (e3:TB3) (t3:cq) (Γ:G) (Q:List Bo→G→Prop):Prop:=e3 Γ fun x Γ1=>t3 Γ1 fun xs Γ2=>Q (x::xs) Γ2
theorem ae:oy K X [] mR Ah:=⟨ja,fun B F σ H Γ Q QQ e q k=>k _ _ ⟨F,Γ,[],aG.refl F,e,rfl,q⟩⟩
theorem aa (ha:P3B K X e te e3) (hr:oy K X es t t3) (hs:starEach (e::es) X.env=(false,eval e X.env)::starEach es X.env:=by rfl):oy K X (e::es) (mS te t) (BZ e3 t3):=⟨cT ha.pe hr.pe hs,by
 intro B F σ H Γ Q QQ e q k
 refine ha.rf B F σ H Γ _ _ e q (fun v H1 ⟨F1,Γ1,x,s1,e1,r1,q1⟩=>?_)
 refine hr.rf B F1 σ H1 Γ1 _ _ e1 q1 (fun vs H2 ⟨F2,Γ2,ds,s2,e2,r2,q2⟩=>?_)
 exact k _ _ ⟨F2,Γ2,x::ds,s1.trans s2,e2,⟨v,vs,rfl,r1.mono s2,r2⟩,q2⟩⟩
def vj (K:PySem.W.Frag) (r:List V→Hp→VK→Prop) (c3:List D→TE3):Prop:=∀ (B:Bs) (F:Hp) (σ:L2.St) (H:Hp) (Γ:G) (vs:List V) (ds:List D) (Q:RV→G→Prop) (QQ:VK),En K B F σ H Γ→mh K F H ds vs→c3 ds Γ Q→(∀ v H',Po K B F σ Q v H'→QQ v H')→r vs H QQ
def va (c3:List D→TE3) (t3:cq) (Γ:G) (Q:RV→G→Prop):Prop:=t3 Γ fun bs Γ1=>∃ ds,ats Γ1 bs=some ds∧c3 ds Γ1 Q
theorem CH {r:List V→Hp→VK→Prop} {c3:List D→TE3} (h:vj K r c3) (ha:pI K t t3):Ref K (tCB r t) (va c3 t3):=by
 intro B F σ H Γ Q QQ e q k
 refine ha B F σ H Γ _ _ e q (fun vs H1 ⟨F1,Γ1,bs,s1,e1,r1,ds,hd,q1⟩=>?_)
 exact h B F1 σ H1 Γ1 vs ds Q QQ e1 (e1.bos r1 hd) q1 fun v H2 p=>k _ _ (p.mono s1)
structure B3 (K:PySem.W.Frag) (X:Cx) (f:Value) (r:List V→Hp→VK→Prop) (c3:List D→TE3):Prop where
 op:dM X f r
 rf:vj K r c3
variable {x:Str} {p:Pos} {id T:String} {r:List V→Hp→VK→Prop} {c3:List D→TE3}
theorem aO (hc:B3 K X (.builtin id) r c3) (hg:Gl X x) (hm:X.mg x=none) (hv:bootBuiltins x=some (.builtin id)) (ha:oy K X (e::es) t t3) (hn:x≠"__name__":=by decide) (hdb:(x == ("__debug__":Str))=false:=by decide)
  (he:starEach (e::es) X.env=(false,eval e X.env)::starEach es X.env:=by rfl) (hpl:(backTo pos (starEach es X.env)).any (·.1)=false:=by rfl):P3 K X (.Call (.Name x p) (e::es) [] pos) (tCB r t) (va c3 t3):=
 ⟨xA hc.op hg hm hv ha.pe hn hdb he hpl,CH hc.rf ha.rf⟩
def Gi (ds:List D) (Γ:G) (Q:RV→G→Prop):Prop:=match ds with
 | [.int i]=>Q (.fz (.int (if i < 0 then -i else i))) Γ
 | _=>False
def mx3 (f:Int→Int→Int) (ds:List D) (Γ:G) (Q:RV→G→Prop):Prop:=match ds with
 | [.int i,.int j]=>Q (.fz (.int (f i j))) Γ
 | _=>False
theorem mh.one {d:D} {vs:List V} (h:mh K F H [d] vs):∃ v,vs=[v]∧gf K F H d v:=by
 obtain⟨v,ws,rfl,h1,h2⟩:=h
 cases h2
 exact⟨v,rfl,h1⟩
theorem mh.two {d e:D} {vs:List V} (h:mh K F H [d,e] vs):∃ v w,vs=[v,w]∧gf K F H d v∧gf K F H e w:=by
 obtain⟨v,ws,rfl,h1,h2⟩:=h
 obtain⟨w,rfl,h3⟩:=mh.one h2
 exact⟨v,w,rfl,h1,h3⟩
abbrev fmax (i j:Int):Int:=if j > i then j else i
abbrev fmin (i j:Int):Int:=if j < i then j else i
theorem B4 (hc:X.calm=true):B3 K X (.builtin "max") (fun xs H Q=>∃ i j,xs=[.int i,.int j]∧Q (.int (if j > i then j else i)) H) (mx3 fmax):=⟨we hc,by
 intro B F σ H Γ vs ds Q QQ e r q k
 unfold mx3 at q
 split at q
 ·obtain⟨v,w,rfl,h,h'⟩:=r.two
  cases h;cases h'
  exact⟨_,_,rfl,k _ _ (i_ e q)⟩
 ·exact q.elim⟩
theorem FL (hc:X.calm=true):B3 K X (.builtin "min") (fun xs H Q=>∃ i j,xs=[.int i,.int j]∧Q (.int (if j < i then j else i)) H) (mx3 fmin):=⟨wc hc,by
 intro B F σ H Γ vs ds Q QQ e r q k
 unfold mx3 at q
 split at q
 ·obtain⟨v,w,rfl,h,h'⟩:=r.two
  cases h;cases h'
  exact⟨_,_,rfl,k _ _ (i_ e q)⟩
 ·exact q.elim⟩
def Fm (ds:List D) (Γ:G) (Q:RV→G→Prop):Prop:=match ds with
 | [.int i]=>Q (.fz (.int i)) Γ
 | [.bl k]=>Q (.fz (.int (if k then 1 else 0))) Γ
 | _=>False
def x9:D→Option Nat
 | .lst xs=>some xs.length
 | .tup xs=>some xs.length
 | .ktup xs=>some xs.length
 | .scr ns=>some ns.length
 | _=>none
def Ao (ds:List D) (Γ:G) (Q:RV→G→Prop):Prop:=match ds with
 | [.str z]=>z.length≤sizeLine∧Q (.fz (.int z.length)) Γ
 | [d]=>∃ n,x9 d=some n∧Q (.fz (.int n)) Γ
 | _=>False
abbrev GB (K:PySem.W.Frag):List V→Hp→VK→Prop:=fun xs H Q=>(∃ p ys,xs=[.ref p]∧(SqL K H p ys∨SqT K H p ys)∧Q (.int ys.length) H)∨(∃ z,xs=[.str z]∧z.length≤sizeLine∧Q (.int z.length) H)
theorem dM.or' {f:Value} {r r':List V→Hp→VK→Prop} (h:dM X f r) (h':dM X f r'):dM X f (fun xs H Q=>r xs H Q∨r' xs H Q):=by
 intro pins s σ H xs us Q I rx q
 rcases q with q | q
 ·exact h pins s σ H xs us Q I rx q
 ·exact h' pins s σ H xs us Q I rx q
theorem An {d:D} {v:V} {n:Nat} (s:aG F H) (h:gf K F H d v) (hn:x9 d=some n):∃ p ys,v=.ref p∧(SqL K H p ys∨SqT K H p ys)∧ys.length=n:=by
 unfold x9 at hn
 split at hn
 ·cases hn
  obtain⟨p,vs,rfl,h1,h2⟩:=h
  exact⟨p,vs,rfl,.inl (SqL.of h1),h2.length⟩
 ·cases hn
  obtain⟨p,vs,rfl,h1,h2⟩:=h
  exact⟨p,vs,rfl,.inr (.inl (.inl (s _ _ h1))),h2.length⟩
 ·cases hn
  obtain⟨p,vs,rfl,h1,h2⟩:=h
  exact⟨p,vs,rfl,.inr (SqT.same s h1),h2.length⟩
 ·cases hn
  obtain⟨p,rfl,h1⟩:=h
  exact⟨p,_,rfl,.inl (s.seq h1),by simp⟩
 ·cases hn
theorem l_ (hK:X.K=K):B3 K X (.builtin "len") (GB K) Ao:=⟨by subst hK;exact dM.or' qK qJ,by
 intro B F σ H Γ vs ds Q QQ e r q k
 unfold Ao at q
 split at q
 ·obtain⟨v,rfl,h⟩:=r.one
  cases h
  exact .inr ⟨_,rfl,q.1,k _ _ (i_ e q.2)⟩
 ·obtain⟨v,rfl,h⟩:=r.one
  obtain⟨n,hn,q⟩:=q
  obtain⟨p,ys,rfl,hs,hl⟩:=An e.sub h hn
  subst hl
  exact .inl ⟨p,ys,rfl,hs,k _ _ (i_ e q)⟩
 ·exact q.elim⟩
end
end L3
namespace L3
open PySem L2 PySem.Spec
section
variable {K:PySem.W.Frag} {X:Cx} {a b c:Expr} {ta tb tc:TE} {a3 b3 c3:TB3} {pos:Pos} {B:Bs} {F H:Hp} {σ:L2.St} {Γ:G}
theorem aA.atI {xs:List D} {vs:List V} (h:aA K F xs vs) {i:Int} {d:D} (e:atI xs i=some d):∃ v,L2.atI vs i=some v∧Rep K F d v:=by
 unfold L2.atI at e ⊢
 rw[h.length]
 cases q:ixN xs.length i with
 | none=>rw[q] at e;cases e
 | some j=>
  rw[q] at e
  exact h.get e
def ix3 (x y:D) (Γ:G) (Q:RV→G→Prop):Prop:=match x,y with
 | .lst xs,.int i=>∃ d,atI xs i=some d∧Q (.fz d) Γ
 | .tup xs,.int i=>∃ d,atI xs i=some d∧Q (.fz d) Γ
 | .ktup xs,.int i=>∃ d,atI xs i=some d∧Q (.fz d) Γ
 | .scr ns,.int i=>∃ n,atI ns i=some n∧Q (.fz (.int n)) Γ
 | .str z,.int i=>z.length≤sizeLine∧∃ c,atI z.cps.toList i=some c∧Q (.fz (.str ⟨#[c]⟩)) Γ
 | _,_=>False
theorem AF {α β:Type} {f:α→β} {xs:List α} {i:Int} {d:α} (e:atI xs i=some d):atI (xs.map f) i=some (f d):=by
 unfold L2.atI at e ⊢
 rw[List.length_map]
 cases q:ixN xs.length i with
 | none=>rw[q] at e;cases e
 | some j=>
  rw[q] at e
  show (xs.map f)[j]?=_
  rw[List.getElem?_map,show xs[j]?=some d from e]
  rfl
theorem Fi:j6 K (rIx K) ix3:=by
 intro B F σ H Γ x y dx dy Q QQ e rx ry q k
 unfold ix3 at q
 split at q
 ·obtain⟨d,hd,q⟩:=q
  obtain⟨p,vs,rfl,h1,h2⟩:=rx
  cases ry
  obtain⟨v,hv,r⟩:=h2.atI hd
  exact .inl ⟨p,vs,_,v,rfl,rfl,SqL.of h1,hv,k _ _ (gn e r q)⟩
 ·obtain⟨d,hd,q⟩:=q
  obtain⟨p,vs,rfl,h1,h2⟩:=rx
  cases ry
  obtain⟨v,hv,r⟩:=h2.atI hd
  exact .inr (.inl ⟨p,vs,_,v,rfl,rfl,.inl (.inl (e.sub _ _ h1)),hv,k _ _ (gn e r q)⟩)
 ·obtain⟨d,hd,q⟩:=q
  obtain⟨p,vs,rfl,h1,h2⟩:=rx
  cases ry
  obtain⟨v,hv,r⟩:=h2.atI hd
  exact .inr (.inl ⟨p,vs,_,v,rfl,rfl,SqT.same e.sub h1,hv,k _ _ (gn e r q)⟩)
 ·obtain⟨d,hd,q⟩:=q
  obtain⟨p,rfl,h1⟩:=rx
  cases ry
  exact .inl ⟨p,_,_,.int d,rfl,rfl,e.sub.seq h1,AF hd,k _ _ (i_ e q)⟩
 ·cases rx;cases ry
  obtain⟨hz,c,hc,q⟩:=q
  exact .inr (.inr ⟨_,_,c,rfl,rfl,hz,hc,k _ _ (xl e q)⟩)
 ·exact q.elim
theorem aX (hK:X.K=K) (ha:P3B K X a ta a3) (hb:P3B K X b tb b3) (hs:vi b):P3 K X (.Subscript a b pos) (tOp (rIx K) ta tb) (kz ix3 a3 b3):=⟨ES (by subst hK;exact DI) ha.pe hb.pe hs,fK Fi ha.rf hb.rf⟩
def cut {α:Type} (xs:List α) (lo hi:Option Int):List α:=(xs.drop (HT.sIx xs.length 0 lo)).take (HT.sIx xs.length xs.length hi - HT.sIx xs.length 0 lo)
def pk {α:Type} (xs:List α) (lo hi st:Option Int):List α:=(sliceRange (sliceBounds lo hi st xs.length).1 (sliceBounds lo hi st xs.length).2.1 (sliceBounds lo hi st xs.length).2.2).filterMap (xs[·]?)
theorem aA.cut {xs:List D} {vs:List V} (h:aA K F xs vs) (lo hi:Option Int):aA K F (cut xs lo hi) (v_ vs lo hi):=by
 unfold L3.cut v_
 rw[h.length]
 exact(h.drop _).take _
theorem aA.places {xs:List D} {vs:List V} (h:aA K F xs vs):∀ js:List Nat,aA K F (js.filterMap (xs[·]?)) (js.filterMap (vs[·]?))
 | []=>rfl
 | j::js=>by
  have ih:=h.places js
  cases hn:xs[j]? with
  | some x=>
   obtain⟨u,hu,r⟩:=h.get hn
   simp only[List.filterMap_cons,hn,hu]
   exact⟨u,_,rfl,r,ih⟩
  | none=>
   have hv:vs[j]?=none:=by
    rw[List.getElem?_eq_none_iff] at hn ⊢
    rw[h.length];exact hn
   simp only[List.filterMap_cons,hn,hv]
   exact ih
theorem aA.pk {xs:List D} {vs:List V} (h:aA K F xs vs) (lo hi st:Option Int):aA K F (pk xs lo hi st) (lQ vs lo hi st):=by
 unfold L3.pk lQ
 rw[h.length]
 exact h.places _
abbrev TO3:=G→(Option Int→G→Prop)→Prop
def G8 (K:PySem.W.Frag) (t:TO) (t3:TO3):Prop:=∀ (B:Bs) (F:Hp) (σ:L2.St) (H:Hp) (Γ:G) (Q:Option Int→G→Prop) (QQ:Option Int→Hp→Prop),En K B F σ H Γ→t3 Γ Q→(∀ o H',(∃ F' Γ',aG F F'∧En K B F' σ H' Γ'∧Q o Γ')→QQ o H')→t σ H QQ
structure P3O (K:PySem.W.Frag) (X:Cx) (e:Option Expr) (t:TO) (t3:TO3):Prop where
 pe:PO X e t
 rf:G8 K t t3
def A9 (Γ:G) (Q:Option Int→G→Prop):Prop:=Q none Γ
def A0 (a3:TB3) (Γ:G) (Q:Option Int→G→Prop):Prop:=a3 Γ fun x Γ1=>∃ i,x.at Γ1=some (.int i)∧Q (some i) Γ1
theorem aZ:P3O K X none t_ A9:=⟨zS,fun B F σ H Γ Q QQ e q k=>k _ _ ⟨F,Γ,aG.refl F,e,q⟩⟩
theorem aW (h:P3B K X a ta a3):P3O K X (some a) (AW ta) (A0 a3):=⟨zR h.pe,by
 intro B F σ H Γ Q QQ e q k
 refine h.rf B F σ H Γ _ _ e q (fun v H1 ⟨F1,Γ1,x,s1,e1,r1,i,h1,q1⟩=>?_)
 have:v=.int i:=e1.bo r1 h1
 exact⟨i,this,k _ _ ⟨F1,Γ1,s1,e1,q1⟩⟩⟩
def sl3 (a3:TB3) (l3 h3:TO3) (Γ:G) (Q:RV→G→Prop):Prop:=a3 Γ fun x Γ1=>l3 Γ1 fun lo Γ2=>h3 Γ2 fun hi Γ3=>∃ xs,x.at Γ3=some (.lst xs)∧Q (.fr (.lst (cut xs lo hi))) Γ3
theorem bh {lo hi:Option Expr} {tl th:TO} {l3 h3:TO3} {p2:Pos} (hK:X.K=K) (ha:P3B K X a ta a3) (hl:P3O K X lo tl l3) (hh:P3O K X hi th h3):P3 K X (.Subscript a (.Slice lo hi none p2) pos) (tSl (EF K) ta tl th) (sl3 a3 l3 h3):=
 ⟨xq (by subst hK;exact zx) ha.pe hl.pe hh.pe,by
 intro B F σ H Γ Q QQ e q k
 refine ha.rf B F σ H Γ _ _ e q (fun v H1 ⟨F1,Γ1,x,s1,e1,r1,q1⟩=>?_)
 refine hl.rf B F1 σ H1 Γ1 _ _ e1 q1 (fun lo H2 ⟨F2,Γ2,s2,e2,q2⟩=>?_)
 refine hh.rf B F2 σ H2 Γ2 _ _ e2 q2 (fun hi H3 ⟨F3,Γ3,s3,e3,xs,h3,q3⟩=>?_)
 obtain⟨p,vs,rfl,h4,h5⟩:=e3.bo (r1.mono (s2.trans s3)) h3
 exact⟨p,vs,rfl,SqL.of h4,fun l hl=>k _ _ (Po.mono ((s1.trans s2).trans s3) (jE e3 hl (h5.cut lo hi) q3))⟩⟩
def Es (a3:TB3) (l3 h3:TO3) (Γ:G) (Q:RV→G→Prop):Prop:=a3 Γ fun x Γ1=>l3 Γ1 fun lo Γ2=>h3 Γ2 fun hi Γ3=>∃ xs,x.at Γ3=some (.tup xs)∧¬ (HT.sIx xs.length 0 lo=0∧HT.sIx xs.length xs.length hi=xs.length)∧Q (.fz (.tup (cut xs lo hi))) Γ3
def Cv (a3:TB3) (l3 h3 s3:TO3) (Γ:G) (Q:RV→G→Prop):Prop:=a3 Γ fun x Γ1=>l3 Γ1 fun lo Γ2=>h3 Γ2 fun hi Γ3=>s3 Γ3 fun st Γ4=>st≠some 0∧∃ xs,x.at Γ4=some (.lst xs)∧Q (.fr (.lst (pk xs lo hi st))) Γ4
theorem vK {lo hi:Option Expr} {st:Expr} {tl th ts:TO} {l3 h3 s3:TO3} {p2:Pos} (hK:X.K=K) (ha:P3B K X a ta a3) (hl:P3O K X lo tl l3) (hh:P3O K X hi th h3) (hs:P3O K X (some st) ts s3):P3 K X (.Subscript a (.Slice lo hi (some st) p2) pos) (Em K ta tl th ts) (Cv a3 l3 h3 s3):=
 ⟨by subst hK;exact vG ha.pe hl.pe hh.pe hs.pe,by
 intro B F σ H Γ Q QQ e q k
 refine ha.rf B F σ H Γ _ _ e q (fun v H1 ⟨F1,Γ1,x,s1,e1,r1,q1⟩=>?_)
 refine hl.rf B F1 σ H1 Γ1 _ _ e1 q1 (fun lo H2 ⟨F2,Γ2,s2,e2,q2⟩=>?_)
 refine hh.rf B F2 σ H2 Γ2 _ _ e2 q2 (fun hi H3 ⟨F3,Γ3,s3,e3,q3⟩=>?_)
 refine hs.rf B F3 σ H3 Γ3 _ _ e3 q3 (fun st H4 ⟨F4,Γ4,s4,e4,hst,xs,h4,q4⟩=>?_)
 obtain⟨p,vs,rfl,h5,h6⟩:=e4.bo (r1.mono ((s2.trans s3).trans s4)) h4
 exact⟨hst,p,vs,rfl,SqL.of h5,fun l hl=>k _ _ (Po.mono (((s1.trans s2).trans s3).trans s4) (jE e4 hl (h6.pk lo hi st) q4))⟩⟩
def tI:D→Option (List D)
 | .lst xs=>some xs
 | .tup xs=>some xs
 | .ktup xs=>some xs
 | .scr ns=>some (ns.map .int)
 | _=>none
def Bf (ds:List D) (Γ:G) (Q:RV→G→Prop):Prop:=match ds with
 | [d]=>∃ xs,tI d=some xs∧Q (.fr (.lst xs)) Γ
 | _=>False
def wH (ds:List D) (Γ:G) (Q:RV→G→Prop):Prop:=match ds with
 | [.lst xs]=>Q (.fz (.tup xs)) Γ
 | _=>False
def knD:D→Bool
 | .non=>true | .bl _=>true | .int _=>true | .str _=>true | .lst _=>true | .tup _=>true | .dct=>true | .dcs _ _=>true | _=>false
theorem DB {d:D} {v:V} (s:aG F H) (h:gf K F H d v) (hk:knD d=true):Kn H v:=by
 unfold knD at hk
 split at hk
 ·cases h;exact .non
 ·cases h;exact .bl _
 ·cases h;exact .int _
 ·cases h;exact .str _
 ·obtain⟨p,vs,rfl,h1,_⟩:=h;exact .lst h1
 ·obtain⟨p,vs,rfl,h1,_⟩:=h;exact .tup (s _ _ h1)
 ·obtain⟨p,rfl,h1⟩:=h;exact .dK (s _ _ h1)
 ·obtain⟨p,rfl,h1⟩:=h;exact .dK (s _ _ h1)
 ·cases hk
def dB:D→Bool
 | .bl _=>true | _=>false
def dI:D→Bool
 | .bl _=>true | .int _=>true | _=>false
def dL:D→Bool
 | .lst _=>true | _=>false
def dT:D→Bool
 | .tup _=>true | _=>false
def is3 (t:String) (f:D→Bool) (ds:List D) (Γ:G) (Q:RV→G→Prop):Prop:=match ds with
 | [d,.ty t']=>t'=t∧knD d=true∧Q (.fz (.bl (f d))) Γ
 | _=>False
theorem DZ {t:String} {f:D→Bool} {g:Hp→V→Bool} (h:dM X (.builtin "isinstance") (fun xs H Q=>∃ x,xs=[x,.ty t]∧Kn H x∧Q (.bl (g H x)) H))
  (hg:∀ {F H:Hp} {d:D} {v:V},aG F H→gf K F H d v→knD d=true→g H v=f d):B3 K X (.builtin "isinstance") (fun xs H Q=>∃ x,xs=[x,.ty t]∧Kn H x∧Q (.bl (g H x)) H) (is3 t f):=⟨h,by
 intro B F σ H Γ vs ds Q QQ e r q k
 unfold is3 at q
 split at q
 ·obtain⟨v,w,rfl,h1,h2⟩:=r.two
  obtain⟨rfl,hk,q⟩:=q
  cases h2
  exact⟨v,rfl,DB e.sub h1 hk,by rw[hg e.sub h1 hk];exact k _ _ (iC e q)⟩
 ·exact q.elim⟩
theorem vf (T:iy X.K):B3 K X (.builtin "isinstance") (fun xs H Q=>∃ x,xs=[x,.ty "bool"]∧Kn H x∧Q (.bl (isB x)) H) (is3 "bool" dB):=DZ (g:=fun _ v=>isB v) (y8 T) fun s h hk=>by
 unfold knD at hk
 split at hk
 ·cases h;rfl
 ·cases h;rfl
 ·cases h;rfl
 ·cases h;rfl
 ·obtain⟨p,vs,rfl,h1,_⟩:=h;rfl
 ·obtain⟨p,vs,rfl,h1,_⟩:=h;rfl
 ·obtain⟨p,rfl,h1⟩:=h;rfl
 ·obtain⟨p,rfl,h1⟩:=h;rfl
 ·cases hk
theorem B5 (T:iy X.K):B3 K X (.builtin "isinstance") (fun xs H Q=>∃ x,xs=[x,.ty "int"]∧Kn H x∧Q (.bl (isI x)) H) (is3 "int" dI):=DZ (g:=fun _ v=>isI v) (y6 T) fun s h hk=>by
 unfold knD at hk
 split at hk
 ·cases h;rfl
 ·cases h;rfl
 ·cases h;rfl
 ·cases h;rfl
 ·obtain⟨p,vs,rfl,h1,_⟩:=h;rfl
 ·obtain⟨p,vs,rfl,h1,_⟩:=h;rfl
 ·obtain⟨p,rfl,h1⟩:=h;rfl
 ·obtain⟨p,rfl,h1⟩:=h;rfl
 ·cases hk
theorem FO (T:iy X.K):B3 K X (.builtin "isinstance") (fun xs H Q=>∃ x,xs=[x,.ty "list"]∧Kn H x∧Q (.bl (isL H x)) H) (is3 "list" dL):=DZ (y4 T) fun s h hk=>by
 unfold knD at hk
 split at hk
 ·cases h;rfl
 ·cases h;rfl
 ·cases h;rfl
 ·cases h;rfl
 ·obtain⟨p,vs,rfl,h1,_⟩:=h;exact uK h1
 ·obtain⟨p,vs,rfl,h1,_⟩:=h;exact uJ (s _ _ h1)
 ·obtain⟨p,rfl,h1⟩:=h;exact tK (s _ _ h1)
 ·obtain⟨p,rfl,h1⟩:=h;exact tK (s _ _ h1)
 ·cases hk
def Gh (ds:List D) (Γ:G) (Q:RV→G→Prop):Prop:=match ds with
 | [.lst xs]=>∃ bs:List Bool,xs=bs.map .bl∧Q (.fz (.bl (bs.all id))) Γ
 | _=>False
theorem aA.lookup:∀ {ns:List Str} {xs:List D} {gs:List (Str×V)} {f:Str} {d:D},gs.map (·.1)=ns→aA K F xs (gs.map (·.2))→(ns.zip xs).lookup f=some d→∃ v,gs.lookup f=some v∧Rep K F d v
 | [],_,[],f,d,_,_,h=>by simp at h
 | n::ns,xs,(m,u)::gs,f,d,h1,h2,h3=>by
  simp only[List.map_cons,List.cons.injEq] at h1
  obtain⟨rfl,h1⟩:=h1
  cases xs with
  | nil=>simp at h3
  | cons x xs=>
   obtain⟨v,ws,e,r,h2⟩:=h2
   simp only[List.map_cons,List.cons.injEq] at e
   obtain⟨rfl,rfl⟩:=e
   rw[List.zip_cons_cons,List.lookup_cons] at h3
   rw[List.lookup_cons]
   cases q:f == m with
   | true=>rw[q] at h3;cases h3;exact⟨_,rfl,r⟩
   | false=>rw[q] at h3;exact aA.lookup h1 h2 h3
end
end L3
namespace L3
open PySem L2 PySem.Spec
structure E3 where
 nx:G→Prop
 rt:RV→G→Prop
 bk:G→Prop:=fun _=>False
 ct:G→Prop:=fun _=>False
abbrev TS3:=E3→G→Prop
structure ml (K:PySem.W.Frag) (B:Bs) (F:Hp) (D:Ends) (D3:E3):Prop where
 nx:∀ F' σ' H' Γ',aG F F'→En K B F' σ' H' Γ'→D3.nx Γ'→D.nx σ' H'
 rt:∀ F' σ' H' Γ' v r,aG F F'→En K B F' σ' H' Γ'→k8 K B F' σ' H' Γ' v r→D3.rt r Γ'→D.rt v H'
 bk:∀ F' σ' H' Γ',aG F F'→En K B F' σ' H' Γ'→D3.bk Γ'→D.bk σ' H'
 ct:∀ F' σ' H' Γ',aG F F'→En K B F' σ' H' Γ'→D3.ct Γ'→D.ct σ' H'
theorem ml.mono {K:PySem.W.Frag} {B:Bs} {F F1:Hp} {D:Ends} {D3:E3} (h:ml K B F D D3) (s:aG F F1):ml K B F1 D D3:=
 ⟨fun F' σ' H' Γ' s'=>h.nx F' σ' H' Γ' (s.trans s'),fun F' σ' H' Γ' v r s'=>h.rt F' σ' H' Γ' v r (s.trans s'),fun F' σ' H' Γ' s'=>h.bk F' σ' H' Γ' (s.trans s'),fun F' σ' H' Γ' s'=>h.ct F' σ' H' Γ' (s.trans s')⟩
def D9 (K:PySem.W.Frag) (t:TS) (t3:TS3):Prop:=∀ (B:Bs) (F:Hp) (σ:L2.St) (H:Hp) (Γ:G) (D:Ends) (D3:E3),En K B F σ H Γ→ml K B F D D3→t3 D3 Γ→t D σ H
structure P3S (K:PySem.W.Frag) (X:Cx) (st:Stmt) (t:TS) (t3:TS3):Prop where
 pe:PS X st t
 rf:D9 K t t3
structure ou (K:PySem.W.Frag) (X:Cx) (st:List Stmt) (t:TS) (t3:TS3):Prop where
 pe:PSs X st t
 rf:D9 K t t3
section
variable {K:PySem.W.Frag} {X:Cx} {B:Bs} {F H:Hp} {σ:L2.St} {Γ:G} {pos:Pos}
def bM (Γ:G) (i:Nat):Prop:=match Γ[i]? with
 | some (some (.ln _))=>False
 | some _=>True
 | none=>False
theorem kK {i:Nat} (h:bM Γ i):i < Γ.length:=by
 unfold bM at h
 split at h
 ·exact h.elim
 ·rename_i q
  exact(List.getElem?_eq_some_iff.mp q).1
 ·exact h.elim
theorem aQ {α:Type} {l:List α} {i:Nat} {a:α} (h:i < l.length):(l.set i a)[i]?=some a:=by
 rw[List.getElem?_set,if_pos rfl,if_pos h]
theorem En.set (e:En K B F σ H Γ) {i:Nat} (hi:bM Γ i) {v:V} {r:RV} (hr:k8 K B F σ H Γ v r) (hn:r.pl=true:=by rfl):En K B F (σ.set i (some v)) H (Γ.set i (some r.sl)):=by
 have il:=kK hi
 have is:i < σ.length:=by rw[e.len];exact il
 have nl:∀ d,Γ[i]?≠some (some (Sl.ln d)):=fun d q=>by unfold bM at hi;rw[q] at hi;exact hi
 have ne:∀ {j:Nat},j≠i→(Γ.set i (some r.sl))[j]?=Γ[j]?∧(σ.set i (some v))[j]?=σ[j]?:=fun h=>⟨bW (Ne.symm h),bW (Ne.symm h)⟩
 have hld:∀ {j x},Hld (Γ.set i (some r.sl)) j x→(j=i∧r=.fr x)∨(j≠i∧Hld Γ j x):=fun {j x} q=>by
  by_cases z:j=i
  ·subst z
   left
   refine⟨rfl,?_⟩
   rcases q with q | q <;> rw[aQ il] at q <;> cases r <;> first | (cases hn;done) | (cases q;done) | (cases q;rfl)
  ·right
   exact⟨z,by unfold Hld at q ⊢;rw[(ne z).1] at q;exact q⟩
 refine⟨e.sub,by rw[List.length_set,List.length_set];exact e.len,?_,?_,?_,?_,?_,?_,e.keep,e.new,e.rest,e.dom⟩
 ·intro j d q
  by_cases z:j=i
  ·subst z
   rw[aQ il] at q
   cases r with
   | fz x=>cases q;exact⟨v,aQ is,hr⟩
   | fr x=>cases q
   | two xs ys=>cases hn
   | rws xss=>cases hn
  ·rw[(ne z).1] at q
   rw[(ne z).2]
   exact e.fz j d q
 ·intro j d q
  rcases hld q with ⟨rfl,rfl⟩ | ⟨z,q⟩
  ·obtain⟨p,rfl,h1,h2,h3,h4⟩:=hr
   exact⟨p,aQ is,h1,h2⟩
  ·rw[(ne z).2]
   exact e.hl j d q
 ·intro j d p q a
  rcases hld (.inl q) with ⟨rfl,rfl⟩ | ⟨z,_⟩
  ·obtain⟨p',rfl,h1,h2,h3,h4⟩:=hr
   rw[aQ is] at a;cases a
   exact h3
  ·rw[(ne z).1] at q
   rw[(ne z).2] at a
   exact e.ow j d p q a
 ·intro j d p q a
  rcases hld (.inr q) with ⟨rfl,rfl⟩ | ⟨z,_⟩
  ·rw[aQ il] at q;cases q
  ·rw[(ne z).1] at q
   rw[(ne z).2] at a
   exact e.ln j d p q a
 ·intro j k d d' p q1 q2 a1 a2
  rcases hld q1 with ⟨rfl,rfl⟩ | ⟨z1,w1⟩
  ·rcases hld q2 with ⟨rfl,h⟩ | ⟨z2,w2⟩
   ·rfl
   ·obtain⟨p',rfl,h1,h2,h3,h4⟩:=hr
    rw[aQ is] at a1;cases a1
    rw[(ne z2).2] at a2
    exact absurd a2 (h4 k _ w2)
  ·rcases hld q2 with ⟨rfl,h⟩ | ⟨z2,w2⟩
   ·subst h
    obtain⟨p',rfl,h1,h2,h3,h4⟩:=hr
    rw[aQ is] at a2;cases a2
    rw[(ne z1).2] at a1
    exact absurd a1 (h4 j _ w1)
   ·rw[(ne z1).2] at a1
    rw[(ne z2).2] at a2
    exact e.dis j k d d' p w1 w2 a1 a2
 ·intro j p q
  obtain⟨a,d,b⟩:=e.par j p q
  have z:j≠i:=fun z=>by subst z;exact nl d b
  rw[(ne z).1,(ne z).2]
  exact⟨a,d,b⟩
theorem En.forget (e:En K B F σ H Γ) {i:Nat} (hi:bM Γ i):En K B F σ H (Γ.set i none):=by
 have nl:∀ d,Γ[i]?≠some (some (Sl.ln d)):=fun d q=>by unfold bM at hi;rw[q] at hi;exact hi
 have il:=kK hi
 have ne:∀ {j:Nat} {s:Sl},(Γ.set i none)[j]?=some (some s)→j≠i∧Γ[j]?=some (some s):=fun {j s} q=>by
  by_cases z:j=i
  ·subst z;rw[aQ il] at q;cases q
  ·exact⟨z,by rw[bW (Ne.symm z)] at q;exact q⟩
 have hld:∀ {j x},Hld (Γ.set i none) j x→Hld Γ j x:=fun q=>q.imp (fun q=>(ne q).2) (fun q=>(ne q).2)
 exact⟨e.sub,by rw[List.length_set];exact e.len,fun j d q=>e.fz j d (ne q).2,fun j d q=>e.hl j d (hld q),fun j d p q=>e.ow j d p (ne q).2,fun j d p q=>e.ln j d p (ne q).2,fun j k d d' p q1 q2=>e.dis j k d d' p (hld q1) (hld q2),
  fun j p q=>by
   obtain⟨a,d,b⟩:=e.par j p q
   have z:i≠j:=fun z=>by subst z;exact nl d b
   exact⟨a,d,by rw[bW z];exact b⟩,e.keep,e.new,e.rest,e.dom⟩
def wQ (i:Nat) (Γ:G) (Q:RV→G→Prop):Prop:=match Γ[i]? with
 | some (some (.fz d))=>Q (.fz d) Γ
 | some (some (.ow d))=>Q (.fr d) (Γ.set i none)
 | _=>False
theorem CG (i:Nat):Ref K (iQ i) (wQ i):=by
 intro B F σ H Γ Q QQ e h k
 unfold wQ at h
 split at h
 ·rename_i d q
  obtain⟨v,h1,h2⟩:=e.fz i d q
  exact⟨v,h1,k _ _ (gn e h2 h)⟩
 ·rename_i d q
  obtain⟨p,h1,h2,h3⟩:=e.hl i d (.inl q)
  have hf:bM Γ i:=by unfold bM;rw[q];trivial
  have e':=e.forget hf
  refine⟨_,h1,k _ _ ⟨F,_,.fr d,aG.refl F,e',⟨p,rfl,h2,h3,e.ow i d p q h1,fun j x hj=>?_⟩,h⟩⟩
  intro a
  have hj':j≠i∧Hld Γ j x:=by
   by_cases z:j=i
   ·subst z
    rcases hj with hj | hj <;> rw[aQ (kK hf)] at hj <;> cases hj
   ·exact⟨z,by unfold Hld at hj ⊢;rw[bW (Ne.symm z)] at hj;exact hj⟩
  exact hj'.1 (e.dis j i x d p hj'.2 (.inl q) a h1)
 ·exact h.elim
theorem xE (i:Nat) {x:Str} {pos:Pos} (hN:X.N[i]?=some x:=by rfl) (hv:Vis X.env.scope x:=by first | exact Or.inl rfl | exact Or.inr (Or.inl rfl) | exact Or.inr (Or.inr rfl)) (hd:(x == ("__debug__":Str))=false:=by decide)
  (hcd:(x == ("__classdict__":Str))=false:=by decide):P3 K X (.Name x pos) (iQ i) (wQ i):=⟨cL hN hv hd hcd,CG i⟩
variable {st:Stmt} {rest:List Stmt} {t u:TS} {t3 u3:TS3} {e:Expr} {te:TE} {e3:TE3}
def A_ (D:E3) (Γ:G):Prop:=D.nx Γ
def Cy (t u:TS3) (D:E3) (Γ:G):Prop:=t { D with nx:=u D } Γ
def EB (e3:TE3) (D:E3) (Γ:G):Prop:=e3 Γ D.rt
def yQ (e3:TE3) (D:E3) (Γ:G):Prop:=e3 Γ fun _ Γ1=>D.nx Γ1
theorem bB:ou K X [] AY A_:=⟨zP,fun B F σ H Γ D D3 e k q=>k.nx F σ H Γ (aG.refl F) e q⟩
theorem ai (h1:P3S K X st t t3) (h2:ou K X rest u u3):ou K X (st::rest) (Cq t u) (Cy t3 u3):=⟨i9 h1.pe h2.pe,fun B F σ H Γ D D3 e k q=>
 h1.rf B F σ H Γ _ { D3 with nx:=u3 D3 } e ⟨fun F' σ' H' Γ' s e' q'=>h2.rf B F' σ' H' Γ' _ D3 e' (k.mono s) q',k.rt,k.bk,k.ct⟩ q⟩
theorem ar (h1:P3S K X st t t3):ou K X [st] t t3:=⟨jC h1.pe,h1.rf⟩
theorem aC (h:P3 K X e te e3):P3S K X (.Return (some e) pos) (Eo te) (EB e3):=⟨CS h.pe,fun B F σ H Γ D D3 e k q=>
 h.rf B F σ H Γ _ _ e q fun v H' ⟨F',Γ',r,s,e',rv,q'⟩=>k.rt F' σ H' Γ' v r s e' rv q'⟩
theorem jB (h:P3 K X e te e3) (hs:swapsWith e none pos.line X.env=pure false:=by rfl):P3S K X (.Expr e pos) (wL te) (yQ e3):=⟨jD h.pe hs,fun B F σ H Γ D D3 e k q=>
 h.rf B F σ H Γ _ _ e q fun v H' ⟨F',Γ',r,s,e',rv,q'⟩=>k.nx F' σ H' Γ' s e' q'⟩
def DL (A3:TT3) (t u:TS3) (D:E3) (Γ:G):Prop:=A3 Γ fun c Γ1=>match c with
 | true=>t D Γ1
 | false=>u D Γ1
theorem cf {c:Expr} {a b:List Stmt} {tc:TT} {A3:TT3} (hc:P3T K X c tc A3) (ha:ou K X a t t3) (hb:ou K X b u u3):P3S K X (.If c a b pos) (Ct tc t u) (DL A3 t3 u3):=⟨A5 hc.pe ha.pe hb.pe,fun B F σ H Γ D D3 e k q=>
 hc.rf B F σ H Γ _ _ e q fun c H' ⟨F',Γ',s,e',q'⟩=>by
  cases c with
  | true=>exact vU (ha.rf B F' σ H' Γ' D D3 e' (k.mono s) q')
  | false=>exact vV (hb.rf B F' σ H' Γ' D D3 e' (k.mono s) q')⟩
theorem m8:P3S K X st wK (fun _ _=>False):=⟨xk,fun B F σ H Γ D D3 e k q=>q⟩
def zz (i:Nat) (e3:TE3) (D:E3) (Γ:G):Prop:=e3 Γ fun r Γ1=>bM Γ1 i∧D.nx (Γ1.set i (some r.sl))
theorem uo {i:Nat} (h:Ref K te e3):D9 K (pR te (lU i)) (zz i e3):=fun B F σ H Γ D D3 e k q=>
 h B F σ H Γ _ _ e q fun v H' ⟨F',Γ',r,s,e',rv,hf,q'⟩=>by
  obtain⟨F2,r2,s2,e2,rv2,h2,hn⟩:=e'.norm rv
  exact k.nx F2 _ H' _ (s.trans s2) (by have:=e2.set hf rv2 hn;rw[h2] at this;exact this) q'
theorem aB {i:Nat} {x:Str} {pos':Pos} (hN:X.N.Nodup) (hi:X.N[i]?=some x) (hx:Loc X.env.scope x) (he:P3 K X e te e3) (hs:swapsWith e (some (.Name x pos')) pos.line X.env=pure false:=by rfl) (hf:X.fn x=true∨X.env.scope.names.lookup x=some .local:=by first | exact .inl rfl | exact .inr rfl | assumption) :
  P3S K X (.Assign [.Name x pos'] e pos) (pR te (lU i)) (zz i e3):=⟨CQ hN hi hx he.pe hs hf,uo he.rf⟩
def EV (i j:Nat) (t3:TA3) (D:E3) (Γ:G):Prop:=t3 Γ fun ds Γ1=>∃ d d',ds=[d,d']∧bM Γ1 i∧bM (Γ1.set i (some (.fz d))) j∧D.nx ((Γ1.set i (some (.fz d))).set j (some (.fz d')))
def gives (Γ:G):List Nat→List D→Option G
 | [],[]=>some Γ
 | i::is,d::ds=>gives (Γ.set i (some (.fz d))) is ds
 | _,_=>none
def frees (Γ:G):List Nat→List D→Prop
 | [],_=>True
 | i::is,d::ds=>bM Γ i∧frees (Γ.set i (some (.fz d))) is ds
 | _,_=>True
def qA:List Nat→TGs
 | []=>Fy
 | i::is=>BQ (lU i) (qA is)
theorem tN {is:List Nat}:∀ {Γ:G} {σ:L2.St} {vs:List V} {ds:List D} {Γ':G} {QQ:L2.St→Hp→Prop},En K B F σ H Γ→aA K F ds vs→gives Γ is ds=some Γ'→frees Γ is ds→(∀ σ',En K B F σ' H Γ'→QQ σ' H)→qA is vs σ H QQ:=by
 induction is with
 | nil=>
  intro Γ σ vs ds Γ' QQ e r g f k
  cases ds with
  | nil=>cases g;cases r;exact⟨rfl,k σ e⟩
  | cons d ds=>cases g
 | cons i is ih=>
  intro Γ σ vs ds Γ' QQ e r g f k
  cases ds with
  | nil=>cases g
  | cons d ds=>
   obtain⟨v,ws,rfl,r1,r2⟩:=r
   exact⟨v,ws,rfl,ih (e.set (r:=.fz d) f.1 r1) r2 g f.2 k⟩
def Et (is:List Nat) (e3:TE3) (D:E3) (Γ:G):Prop:=e3 Γ fun r Γ1=>∃ ds Γ',r.d=.tup ds∧gives Γ1 is ds=some Γ'∧frees Γ1 is ds∧D.nx Γ'
theorem v7 {is:List Nat}:∀ {Γ Γ':G} {ds:List D},gives Γ is ds=some Γ'→ds.length=is.length:=by
 induction is with
 | nil=>intro Γ Γ' ds h;cases ds with | nil=>rfl | cons=>cases h
 | cons i is ih=>intro Γ Γ' ds h;cases ds with | nil=>cases h | cons d ds=>simp [ih h]
def putD (Γ:G) (i:Nat) (d:D):G:=match Γ[i]? with
 | some (some (.ow _))=>Γ.set i (some (.ow d))
 | some (some (.ln _))=>Γ.set i (some (.ln d))
 | _=>Γ
def cj (Γ:G) (i:Nat):Option (List D):=match Γ[i]? with
 | some (some (.ow (.lst xs)))=>some xs
 | some (some (.ln (.lst xs)))=>some xs
 | _=>none
theorem o5 {i:Nat} {xs:List D} (h:cj Γ i=some xs):Hld Γ i (.lst xs):=by
 unfold cj at h
 split at h
 ·cases h;rename_i q;exact .inl q
 ·cases h;rename_i q;exact .inr q
 ·cases h
theorem En.GK (e:En K B F σ H Γ) {i:Nat} {d0 d1:D} (hh:Hld Γ i d0) {p:Addr} (hp:σ[i]?=some (some (V.ref p))) {o1:HO} (r:Own K F (upd H p o1) p d1):En K B F σ (upd H p o1) (putD Γ i d1):=by
 obtain⟨p0,a0,b0,c0⟩:=e.hl i _ hh
 rw[hp] at a0;cases a0
 obtain⟨o,ho⟩:=c0.some
 have hput:(Γ[i]?=some (some (Sl.ow d0))∧putD Γ i d1=Γ.set i (some (.ow d1)))∨(Γ[i]?=some (some (Sl.ln d0))∧putD Γ i d1=Γ.set i (some (.ln d1))):=by
  rcases hh with q | q
  ·exact .inl ⟨q,by unfold putD;rw[q]⟩
  ·exact .inr ⟨q,by unfold putD;rw[q]⟩
 have il:i < Γ.length:=by rcases hput with ⟨q,_⟩ | ⟨q,_⟩ <;> exact(List.getElem?_eq_some_iff.mp q).1
 have other:∀ {j:Nat},j≠i→(putD Γ i d1)[j]?=Γ[j]?:=fun z=>by
  rcases hput with ⟨_,q⟩ | ⟨_,q⟩ <;> rw[q,bW (Ne.symm z)]
 have same:∀ {s:Sl},(putD Γ i d1)[i]?=some (some s)→(s=.ow d1∧Γ[i]?=some (some (Sl.ow d0)))∨(s=.ln d1∧Γ[i]?=some (some (Sl.ln d0))):=fun {s} q=>by
  rcases hput with ⟨a,b⟩ | ⟨a,b⟩
  ·rw[b,aQ il] at q;cases q;exact .inl ⟨rfl,a⟩
  ·rw[b,aQ il] at q;cases q;exact .inr ⟨rfl,a⟩
 have hld:∀ {j x},Hld (putD Γ i d1) j x→(j=i∧x=d1)∨(j≠i∧Hld Γ j x):=fun {j x} q=>by
  by_cases z:j=i
  ·subst z
   left
   rcases q with q | q <;> rcases same q with ⟨h,_⟩ | ⟨h,_⟩ <;> cases h <;> exact⟨rfl,rfl⟩
  ·right;exact⟨z,by unfold Hld at q ⊢;rw[other z] at q;exact q⟩
 have hld':∀ {j x},Hld (putD Γ i d1) j x→∃ y,Hld Γ j y:=fun q=>by
  rcases hld q with ⟨rfl,_⟩ | ⟨_,q⟩
  ·exact⟨_,hh⟩
  ·exact⟨_,q⟩
 refine⟨?_,?_,?_,?_,?_,?_,?_,?_,e.keep,e.new,?_,?_⟩
 ·intro b u q
  have z:b≠p:=fun z=>by subst z;rw[b0] at q;cases q
  rw[ah z];exact e.sub b u q
 ·rcases hput with ⟨_,q⟩ | ⟨_,q⟩ <;> rw[q,List.length_set] <;> exact e.len
 ·intro j d q
  by_cases z:j=i
  ·subst z;rcases same q with ⟨h,_⟩ | ⟨h,_⟩ <;> cases h
  ·rw[other z] at q;exact e.fz j d q
 ·intro j d q
  rcases hld q with ⟨rfl,rfl⟩ | ⟨z,q⟩
  ·exact⟨p,hp,b0,r⟩
  ·obtain⟨p',a,b,c⟩:=e.hl j d q
   have ne:p'≠p:=fun y=>z (e.dis j i _ _ p q hh (y ▸ a) hp)
   exact⟨p',a,b,c.mono (aG.refl F) (ah ne)⟩
 ·intro j d p' q a
  by_cases z:j=i
  ·subst z
   rcases same q with ⟨h,g⟩ | ⟨h,g⟩
   ·exact e.ow j _ p' g a
   ·cases h
  ·rw[other z] at q;exact e.ow j d p' q a
 ·intro j d p' q a
  by_cases z:j=i
  ·subst z
   rcases same q with ⟨h,g⟩ | ⟨h,g⟩
   ·cases h
   ·exact e.ln j _ p' g a
  ·rw[other z] at q;exact e.ln j d p' q a
 ·intro j k d d' p' q1 q2
  obtain⟨y1,h1⟩:=hld' q1
  obtain⟨y2,h2⟩:=hld' q2
  exact e.dis j k y1 y2 p' h1 h2
 ·intro j p' q
  obtain⟨a,d,b⟩:=e.par j p' q
  refine⟨a,?_⟩
  by_cases z:j=i
  ·subst z
   rcases hput with ⟨c,_⟩ | ⟨_,c⟩
   ·rw[b] at c;cases c
   ·exact⟨_,by rw[c,aQ il]⟩
  ·exact⟨d,by rw[other z];exact b⟩
 ·intro b u q n
  have z:b≠p:=fun z=>by
   subst z
   rcases hh with g | g
   ·rw[e.ow i _ _ g hp] at q;cases q
   ·exact n i (e.ln i _ _ g hp)
  rw[ah z];exact e.rest b u q n
 ·intro b q
  by_cases z:b=p
  ·subst z;rw[au] at q;cases q
  ·rw[ah z] at q;exact e.dom b q
theorem En.mut (e:En K B F σ H Γ) {i:Nat} {xs xs':List D} (h:cj Γ i=some xs) {p:Addr} (hp:σ[i]?=some (some (V.ref p))) {vs':List V} (r:aA K F xs' vs'):En K B F σ (upd H p (.lst vs')) (putD Γ i (.lst xs')):=
 e.GK (o5 h) hp ⟨vs',au,r⟩
end
end L3
namespace L3
open PySem L2 PySem.Spec
section
variable {K:PySem.W.Frag} {X:Cx} {B:Bs} {F H:Hp} {σ:L2.St} {Γ:G} {pos:Pos}
def newD:List (Option Nat)→G→Nat→Option D
 | some j'::ls,s::cs,j=>if j'=j then (match s with
   | some (.ln d)=>some d
   | _=>newD ls cs j) else newD ls cs j
 | none::ls,_::cs,j=>newD ls cs j
 | _,_,_=>none
theorem e_:∀ {ls:List (Option Nat)} {cs:G} {j:Nat} {d:D},newD ls cs j=some d→∃ k:Nat,ls[k]?=some (some j)∧cs[k]?=some (some (Sl.ln d))
 | some j'::ls,s::cs,j,d,h=>by
  unfold newD at h
  split at h
  ·rename_i e
   subst e
   split at h
   ·cases h;exact⟨0,rfl,rfl⟩
   ·obtain⟨k,a,b⟩:=e_ h
    exact⟨k + 1,by simpa using a,by simpa using b⟩
  ·obtain⟨k,a,b⟩:=e_ h
   exact⟨k + 1,by simpa using a,by simpa using b⟩
 | none::ls,_::cs,j,d,h=>by
  unfold newD at h
  obtain⟨k,a,b⟩:=e_ h
  exact⟨k + 1,by simpa using a,by simpa using b⟩
 | [],_,_,_,h=>by unfold newD at h;cases h
 | some _::_,[],_,_,h=>by unfold newD at h;cases h
 | none::_,[],_,_,h=>by unfold newD at h;cases h
theorem mH:∀ {ls:List (Option Nat)} {cs:G} {j k:Nat} {d:D},ls[k]?=some (some j)→cs[k]?=some (some (Sl.ln d))→∃ d',newD ls cs j=some d'
 | [],_,_,_,_,h,_=>by simp at h
 | _::_,[],_,_,_,_,h=>by simp at h
 | some j'::ls,s::cs,j,0,d,h,h'=>by
  simp at h h'
  subst h h'
  exact⟨d,by unfold newD;rw[if_pos rfl]⟩
 | none::ls,s::cs,j,0,d,h,h'=>by simp at h
 | some j'::ls,s::cs,j,k + 1,d,h,h'=>by
  unfold newD
  split
  ·split
   ·exact⟨_,rfl⟩
   ·exact mH (k:=k) (by simpa using h) (by simpa using h')
  ·exact mH (k:=k) (by simpa using h) (by simpa using h')
 | none::ls,s::cs,j,k + 1,d,h,h'=>by
  unfold newD
  exact mH (k:=k) (by simpa using h) (by simpa using h')
def jx (n:Option D):Option Sl→Option Sl
 | some (.ow d)=>some (.ow (n.getD d))
 | some (.ln d)=>some (.ln (n.getD d))
 | s=>s
def bK (ls:List (Option Nat)) (Γ cs:G):G:=Γ.mapIdx fun j s=>jx (newD ls cs j) s
theorem fh {ls:List (Option Nat)} {cs:G} {j:Nat}:(bK ls Γ cs)[j]?=(Γ[j]?).map (jx (newD ls cs j)):=by
 unfold bK
 rw[List.getElem?_mapIdx]
theorem En.back {F1 H1:Hp} {own':List (Nat×Addr)} {σc:L2.St} {Γc:G} {ls:List (Option Nat)} (e:En K B F1 σ H1 Γ) (e2:En K ⟨F1,H1,own'⟩ F σc H Γc)
  (h1:∀ k p,(k,p)∈own'→∃ j d,ls[k]?=some (some j)∧Hld Γ j d∧σ[j]?=some (some (V.ref p))):En K B F σ H (bK ls Γ Γc):=by
 have gfz:∀ {j d},(bK ls Γ Γc)[j]?=some (some (Sl.fz d))→Γ[j]?=some (some (Sl.fz d)):=fun {j d} q=>by
  rw[fh] at q
  cases w:Γ[j]? with
  | none=>rw[w] at q;cases q
  | some s=>
   rw[w] at q
   cases s with
   | none=>cases q
   | some s=>cases s <;> cases q;rfl
 have gow:∀ {j d},(bK ls Γ Γc)[j]?=some (some (Sl.ow d))→∃ d0,Γ[j]?=some (some (Sl.ow d0))∧d=(newD ls Γc j).getD d0:=fun {j d} q=>by
  rw[fh] at q
  cases w:Γ[j]? with
  | none=>rw[w] at q;cases q
  | some s=>
   rw[w] at q
   cases s with
   | none=>cases q
   | some s=>cases s <;> cases q;exact⟨_,rfl,rfl⟩
 have gln:∀ {j d},(bK ls Γ Γc)[j]?=some (some (Sl.ln d))→∃ d0,Γ[j]?=some (some (Sl.ln d0))∧d=(newD ls Γc j).getD d0:=fun {j d} q=>by
  rw[fh] at q
  cases w:Γ[j]? with
  | none=>rw[w] at q;cases q
  | some s=>
   rw[w] at q
   cases s with
   | none=>cases q
   | some s=>cases s <;> cases q;exact⟨_,rfl,rfl⟩
 have gh:∀ {j d},Hld (bK ls Γ Γc) j d→∃ d0,Hld Γ j d0∧d=(newD ls Γc j).getD d0:=fun {j d} q=>by
  rcases q with q | q
  ·obtain⟨d0,a,b⟩:=gow q;exact⟨d0,.inl a,b⟩
  ·obtain⟨d0,a,b⟩:=gln q;exact⟨d0,.inr a,b⟩
 refine⟨e2.sub,by unfold bK;rw[List.length_mapIdx];exact e.len,?_,?_,?_,?_,?_,?_,e.keep.trans e2.keep,?_,?_,?_⟩
 ·intro j d q
  obtain⟨v,a,b⟩:=e.fz j d (gfz q)
  exact⟨v,a,b.mono e2.keep⟩
 ·intro j d q
  obtain⟨d0,w0,rfl⟩:=gh q
  obtain⟨p,a,b,c⟩:=e.hl j d0 w0
  obtain⟨o,ho⟩:=c.some
  have fp:F p=none:=by
   cases w:F p with
   | none=>rfl
   | some u=>
    rcases e2.new p u w with z | z
    ·rw[show F1 p=some u from z] at b;cases b
    ·rw[show H1 p=none from z] at ho;cases ho
  refine⟨p,a,fp,?_⟩
  cases w:newD ls Γc j with
  | some d'=>
   obtain⟨k,x,y⟩:=e_ w
   obtain⟨p',a',b',c'⟩:=e2.hl k d' (.inr y)
   obtain⟨j2,d2,x2,_,a2⟩:=h1 k p' (e2.ln k d' p' y a')
   rw[x] at x2;cases x2
   rw[a] at a2;cases a2
   exact c'
  | none=>
   have hk:∀ k,(k,p)∉own':=fun k hk=>by
    obtain⟨j2,d2,x2,q2,a2⟩:=h1 k p hk
    obtain⟨_,d3,y⟩:=e2.par k p hk
    have:j2=j:=e.dis j2 j d2 d0 p q2 w0 a2 a
    subst this
    obtain⟨d4,z⟩:=mH x2 y
    rw[w] at z;cases z
   have hp:H p=H1 p:=by rw[ho];exact e2.rest p o ho hk
   exact c.mono e2.keep hp
 ·intro j d p q a
  obtain⟨d0,q,_⟩:=gow q
  exact e.ow j d0 p q a
 ·intro j d p q a
  obtain⟨d0,q,_⟩:=gln q
  exact e.ln j d0 p q a
 ·intro i j d d' p q1 q2
  obtain⟨d0,q1,_⟩:=gh q1
  obtain⟨d1,q2,_⟩:=gh q2
  exact e.dis i j d0 d1 p q1 q2
 ·intro j p q
  obtain⟨a,d,b⟩:=e.par j p q
  exact⟨a,_,by rw[fh,b];rfl⟩
 ·intro b o q
  rcases e2.new b o q with z | z
  ·exact e.new b o z
  ·exact .inr (e.dom b z)
 ·intro b o q n
  have q1:=e.rest b o q n
  refine e2.rest b o q1 fun k hk=>?_
  obtain⟨j,d,x,y,a⟩:=h1 k b hk
  rcases y with y | y
  ·rw[e.ow j d b y a] at q;cases q
  ·exact n j (e.ln j d b y a)
 ·intro b q
  exact e.dom b (e2.dom b q)
structure ItR (K:PySem.W.Frag) (F:Hp) (J:It) (xs:List D):Prop where
 go:∀ i H',aG F H'→i < xs.length→J.go i H'
 stop:∀ i H',aG F H'→i=xs.length→J.stop i H'
 yld:∀ i H' x H'' d,aG F H'→xs[i]?=some d→J.yld i H' x H''→(H''=H'∧Rep K F d x)∨∃ t vs ds,H' t=none∧H''=upd H' t (.tup vs)∧x=.ref t∧aA K F ds vs∧d=.tup ds
abbrev TI3:=G→(List D→G→Prop)→Prop
def AK (K:PySem.W.Frag) (t:TI) (i3:TI3):Prop:=∀ (B:Bs) (F:Hp) (σ:L2.St) (H:Hp) (Γ:G) (Q:List D→G→Prop) (R:It→Hp→Prop),En K B F σ H Γ→i3 Γ Q→(∀ J H1 F1 Γ1 xs,aG F F1→En K B F1 σ H1 Γ1→ItR K F1 J xs→Q xs Γ1→R J H1)→t σ H R
structure P3I (K:PySem.W.Frag) (X:Cx) (tg iter:Expr) (t:TI) (i3:TI3):Prop where
 pe:PI X tg iter t
 rf:AK K t i3
abbrev TG3:=D→G→(G→Prop)→Prop
def zl (K:PySem.W.Frag) (g:TG) (g3:TG3):Prop:=∀ (B:Bs) (F:Hp) (σ:L2.St) (H:Hp) (Γ:G) (v:V) (d:D) (Q:G→Prop) (QQ:L2.St→Hp→Prop),En K B F σ H Γ→Rep K F d v→g3 d Γ Q→(∀ σ' Γ',En K B F σ' H Γ'→Q Γ'→QQ σ' H)→g v σ H QQ
structure P3G (K:PySem.W.Frag) (X:Cx) (tg:Expr) (g:TG) (g3:TG3):Prop where
 pe:PG X tg g
 rf:zl K g g3
def tgN (i:Nat) (d:D) (Γ:G) (Q:G→Prop):Prop:=bM Γ i∧Q (Γ.set i (some (.fz d)))
def tgT (is:List Nat) (d:D) (Γ:G) (Q:G→Prop):Prop:=∃ ds Γ',d=.tup ds∧gives Γ is ds=some Γ'∧frees Γ is ds∧Q Γ'
theorem bq {i:Nat} {x:Str} (hN:X.N.Nodup) (hi:X.N[i]?=some x) (hx:Loc X.env.scope x) (hf:X.fn x=true∨X.env.scope.names.lookup x=some .local:=by first | exact .inl rfl | exact .inr rfl | assumption):P3G K X (.Name x pos) (lU i) (tgN i):=
 ⟨qg hN hi hx hf,fun B F σ H Γ v d Q QQ e r q k=>k _ _ (e.set (r:=.fz d) q.1 r) q.2⟩
theorem DP {es:List Expr} {kt:Nat} {is:List Nat} (hK:X.K=K) (hg:PGs X es (qA is)) (hc:X.calm=true) (hn:(assignEach es X.env).length=is.length:=by rfl) (hst:(assignEach es X.env).findIdx? (·.1)=none:=by rfl) :
  P3G K X (.Tuple es kt pos) (Fx K is.length (qA is)) (tgT is):=⟨by subst hK;exact CV hc hg hn hst,fun B F σ H Γ v d Q QQ e r q k=>by
 obtain⟨ds,Γ',rfl,h1,h2,q⟩:=q
 obtain⟨p,vs,rfl,h4,h5⟩:=r
 exact⟨p,vs,rfl,.inl (.inl (e.sub _ _ h4)),by rw[h5.length,v7 h1],tN e h5 h1 h2 fun σ' e'=>k σ' Γ' e' q⟩⟩
theorem ItR.turn {J:It} {xs:List D} (R:ItR K F J xs) {F' H' H'':Hp} (s:aG F F') (e:En K B F' σ H' Γ) {i:Nat} {d:D} {x:V} (hd:xs[i]?=some d) (y:J.yld i H' x H''):∃ F2,aG F' F2∧En K B F2 σ H'' Γ∧Rep K F2 d x:=by
 rcases R.yld i H' x H'' d (s.trans e.sub) hd y with ⟨rfl,r⟩ | ⟨t,vs,ds,h1,rfl,rfl,r,rfl⟩
 ·exact⟨F',aG.refl F',e,r.mono s⟩
 ·exact⟨upd F' t (.tup vs),aV (e.nof h1),(e.alloc h1 _).freeze (e.nof h1) au (e.dom _ h1) (e.rL h1),t,vs,rfl,au,r.mono (s.trans (aV (e.nof h1)))⟩
def DR (i3:TI3) (g3:TG3) (b3:TS3) (D:E3) (Γ:G):Prop:=i3 Γ fun xs Γ1=>∃ Iv:Nat→G→Prop,Iv 0 Γ1∧(∀ k d Γ,xs[k]?=some d→Iv k Γ→g3 d Γ fun Γ'=>b3 { D with nx:=Iv (k + 1),ct:=Iv (k + 1),bk:=D.nx } Γ')∧∀ Γ,Iv xs.length Γ→D.nx Γ
theorem lC {tg iter:Expr} {body:List Stmt} {wi:TI} {i3:TI3} {g:TG} {g3:TG3} {tb:TS} {b3:TS3} (hp:PassesOwn (model X.prog X.w) X.A X.env X.xe) (hc:X.calm=true) (hi:P3I K X tg iter wi i3) (hg:P3G K X tg g g3) (hb:ou K X body tb b3) (hs:∀ x,foldedSetIterable iter X.env x=pure x:=by intro _;rfl) :
  P3S K X (.For tg iter body [] pos) (Er wi g tb) (DR i3 g3 b3):=⟨CT hp hc hi.pe hg.pe hb.pe hs,fun B F σ H Γ D D3 e k q=>by
 refine hi.rf B F σ H Γ _ _ e q fun J H1 F1 Γ1 xs s1 e1 R ⟨Iv,i0,it,ie⟩=>?_
 refine⟨fun i m σ H=>m=xs.length - i∧i≤xs.length∧∃ F' Γ',aG F1 F'∧En K B F' σ H Γ'∧Iv i Γ',⟨_,rfl,Nat.zero_le _,F1,Γ1,aG.refl _,e1,i0⟩,?_⟩
 rintro i m σ2 H2 ⟨rfl,hi',F2,Γ2,s2,e2,iv⟩
 by_cases lt:i < xs.length
 ·refine .inr ⟨R.go i H2 (s2.trans e2.sub) lt,fun σ' H'=>∃ F' Γ',aG F1 F'∧En K B F' σ' H' Γ'∧Iv (i + 1) Γ',fun σ' H' ⟨F',Γ',a,b,c⟩=>⟨xs.length - (i + 1),by omega,rfl,lt,F',Γ',a,b,c⟩,fun x H3 y=>?_⟩
  have hd:xs[i]?=some xs[i]:=List.getElem?_eq_getElem lt
  obtain⟨F3,s3,e3,r3⟩:=R.turn s2 e2 hd y
  refine hg.rf B F3 σ2 H3 Γ2 x _ _ _ e3 r3 (it i _ Γ2 hd iv) fun σ' Γ' e4 q4=>?_
  have s4:=s2.trans s3
  refine hb.rf B F3 σ' H3 Γ' _ { D3 with nx:=Iv (i + 1),ct:=Iv (i + 1),bk:=D3.nx } e4 ⟨fun F' σ' H' Γ' s e q=>⟨F',Γ',s4.trans s,e,q⟩,fun F' σ' H' Γ' v r s e rv q=>k.rt F' σ' H' Γ' v r ((s1.trans s4).trans s) e rv q,fun F' σ' H' Γ' s e q=>k.nx F' σ' H' Γ' ((s1.trans s4).trans s) e q,fun F' σ' H' Γ' s e q=>⟨F',Γ',s4.trans s,e,q⟩⟩ q4
 ·have z:i=xs.length:=by omega
  subst z
  exact .inl ⟨R.stop _ H2 (s2.trans e2.sub) rfl,k.nx F2 σ2 H2 Γ2 (s1.trans s2) e2 (ie Γ2 iv)⟩⟩
def iL3 (a3:TE3) (Γ:G) (Q:List D→G→Prop):Prop:=a3 Γ fun r Γ1=>∃ xs,r.d=.lst xs∧Q xs Γ1
theorem eh {tg l:Expr} {tl:TE} {l3:TE3} (hK:X.K=K) (h:P3 K X l tl l3):P3I K X tg l (Bx K tl) (iL3 l3):=⟨by subst hK;exact zW h.pe,fun B F σ H Γ Q R e q k=>
 h.rf B F σ H Γ _ _ e q fun v H' ⟨F',Γ',r,s,e',rv,xs,hx,q'⟩=>by
  obtain⟨F2,s2,e2,r2⟩:=e'.frozen rv
  rw[hx] at r2
  obtain⟨p,vs,rfl,h1,h2⟩:=r2
  refine⟨p,rfl,⟨vs,SqL.of (e2.sub _ _ h1)⟩,k _ H' F2 Γ' xs (s.trans s2) e2 ⟨fun i H'' sm lt=>?_,fun i H'' sm ei=>?_,fun i H'' x H3 d sm hd y=>?_⟩ q'⟩
  ·rw[← h2.length] at lt
   exact⟨vs,vs[i],SqL.of (sm _ _ h1),by simp [lt]⟩
  ·exact⟨vs,SqL.of (sm _ _ h1),by rw[h2.length];omega⟩
  ·obtain⟨e1,y⟩:=y
   obtain⟨d',hd',r⟩:=h2.yu (y vs (SqL.of (sm _ _ h1)))
   rw[hd] at hd';cases hd'
   exact .inl ⟨e1,r⟩⟩
def rng (lo:Int) (n:Nat):List D:=(List.range n).map fun (k:Nat)=>D.int (lo + (k:Int))
theorem Ez {lo:Int} {n:Nat}:ItR K F (Itr lo n) (rng lo n):=by
 have hl:(rng lo n).length=n:=by simp [rng]
 refine⟨fun i H' _ lt=>by rw[hl] at lt;exact lt,fun i H' _ e=>by rw[hl] at e;exact Nat.le_of_eq e.symm,fun i H' x H'' d _ hd y=>?_⟩
 obtain⟨e1,e2⟩:=y
 subst e1 e2
 refine .inl ⟨rfl,?_⟩
 have hi:i < n:=by have:=(List.getElem?_eq_some_iff.mp hd).1;rw[hl] at this;exact this
 have:(rng lo n)[i]?=some (.int (lo + i)):=by unfold rng;rw[List.getElem?_map,List.getElem?_range hi];rfl
 rw[this] at hd;cases hd
 rfl
def iR1 (t3:TA3) (Γ:G) (Q:List D→G→Prop):Prop:=t3 Γ fun ds Γ1=>∃ j:Int,ds=[.int j]∧-(2 ^ 62)≤j∧j < 2 ^ 62∧Q (rng 0 j.toNat) Γ1
def iR2 (t3:TA3) (Γ:G) (Q:List D→G→Prop):Prop:=t3 Γ fun ds Γ1=>∃ i j:Int,ds=[.int i,.int j]∧(-(2 ^ 62)≤i∧i < 2 ^ 62∧-(2 ^ 62)≤j∧j < 2 ^ 62)∧Q (rng i (j - i).toNat) Γ1
theorem bP {tg a:Expr} {ta:TA} {a3:TA3} {p pos:Pos} (hg:Gl X "range") (hm:X.mg "range"=none) (ha:P3A K X [a] ta a3) (hs:starEach [a] X.env=[(false,eval a X.env)]:=by rfl):P3I K X tg (.Call (.Name "range" p) [a] [] pos) (Bw ta) (iR1 a3):=⟨vF hg hm ha.pe hs,fun B F σ H Γ Q R e q k=>
 ha.rf B F σ H Γ _ _ e q fun vs H' ⟨F',Γ',ds,s,e',rv,j,h1,h2,h3,q'⟩=>by
  subst h1
  obtain⟨v,ws,rfl,r1,r2⟩:=rv
  cases r1;cases r2
  exact⟨j,rfl,h2,h3,k _ H' F' Γ' _ s e' Ez q'⟩⟩
def Ec (xs ys:List D):List D:=(xs.zip ys).map fun p=>.tup [p.1,p.2]
def iZ3 (t3:TA3) (Γ:G) (Q:List D→G→Prop):Prop:=t3 Γ fun ds Γ1=>∃ xs ys,ds=[.lst xs,.lst ys]∧Q (Ec xs ys) Γ1
def o_ (xs:List D):List D:=xs.mapIdx fun i x=>.tup [.int i,x]
def iE3 (t3:TA3) (Γ:G) (Q:List D→G→Prop):Prop:=t3 Γ fun ds Γ1=>∃ xs,ds=[.lst xs]∧Q (o_ xs) Γ1
theorem lP {xs:List D} {i:Nat} {d:D} (h:(o_ xs)[i]?=some d):∃ x,xs[i]?=some x∧d=.tup [.int i,x]:=by
 unfold o_ at h
 rw[List.getElem?_mapIdx] at h
 cases q:xs[i]? with
 | none=>rw[q] at h;cases h
 | some p=>rw[q] at h;cases h;exact⟨_,rfl,rfl⟩
theorem Ar {a:Expr} {ta:TA} {a3:TA3} {es:List Expr} {kt:Nat} {tp p pos:Pos} (hg:Gl X "enumerate") (hm:X.mg "enumerate"=none) (ha:P3A K X [a] ta a3) (hs:starEach [a] X.env=[(false,eval a X.env)]:=by rfl) :
  P3I K X (.Tuple es kt tp) (.Call (.Name "enumerate" p) [a] [] pos) (By ta) (iE3 a3):=⟨zX hg hm ha.pe hs,fun B F σ H Γ Q R e q k=>
 ha.rf B F σ H Γ _ _ e q fun vs H' ⟨F',Γ',ds,s,e',rv,xs,h1,q'⟩=>by
  subst h1
  obtain⟨v,ws,rfl,⟨p1,vs1,rfl,g1,r1⟩,r3⟩:=rv
  cases r3
  refine⟨p1,vs1,rfl,e'.sub _ _ g1,k _ H' F' Γ' _ s e' ⟨fun i H'' sm lt=>?_,fun i H'' sm ei=>?_,fun i H'' x H3 d sm hd y=>?_⟩ q'⟩
  ·obtain⟨x,hx,_⟩:=lP (List.getElem?_eq_getElem lt)
   obtain⟨v,hv,_⟩:=r1.get hx
   exact⟨vs1,v,sm _ _ g1,hv⟩
  ·refine⟨vs1,sm _ _ g1,?_⟩
   subst ei
   unfold o_
   rw[List.length_mapIdx,r1.length]
   exact Nat.le_refl _
  ·obtain⟨t,zs1,x1,ht,a1,b1,rfl,rfl⟩:=y
   rw[sm _ _ g1] at a1;cases a1
   obtain⟨dx,hx,rfl⟩:=lP hd
   obtain⟨v,hv,rv⟩:=r1.get hx
   rw[b1] at hv;cases hv
   exact .inr ⟨t,_,[.int i,dx],ht,rfl,rfl,⟨_,_,rfl,rfl,_,_,rfl,rv,rfl⟩,rfl⟩⟩
theorem t8 {p:Addr} {vs:List V} (h:H p=some (.lst vs)):tyV K "list" (.ref p) H:=.inl ⟨rfl,_,SqL.of h⟩
theorem En.cj (e:En K B F σ H Γ) {i:Nat} {xs:List D} (h:cj Γ i=some xs):∃ p vs,σ[i]?=some (some (V.ref p))∧H p=some (.lst vs)∧aA K F xs vs:=by
 obtain⟨p,a,b,vs,c,d⟩:=e.hl i _ (o5 h)
 exact⟨p,vs,a,c,d⟩
def D4 (i:Nat) (e3:TE3) (Γ:G) (Q:RV→G→Prop):Prop:=(∃ xs,cj Γ i=some xs)∧e3 Γ fun r Γ1=>∃ xs,cj Γ1 i=some xs∧xs.length < sizeLine∧Q (.fz .non) (putD Γ1 i (.lst (xs++[r.d])))
theorem zK {te:TE} {e3:TE3} (i:Nat) (h:Ref K te e3):Ref K (tBM K "list" qb (iQ i) (mS te mR)) (D4 i e3):=by
 intro B F σ H Γ Q QQ e ⟨⟨xs0,h0⟩,q⟩ k
 obtain⟨p,vs0,a0,b0,_⟩:=e.cj h0
 refine⟨_,a0,t8 b0,h B F σ H Γ _ _ e q fun v H' ⟨F',Γ',r,s,e',rv,xs,hx,hz,q'⟩=>?_⟩
 obtain⟨F2,s2,e2,r2⟩:=e'.frozen rv
 obtain⟨p',vs,a,b,c⟩:=e2.cj hx
 rw[a0] at a;cases a
 exact⟨p,vs,v,rfl,rfl,b,by rw[c.length];exact hz,k _ _ ⟨F2,_,.fz .non,s.trans s2,e2.mut hx a0 (aA.append (ys:=[r.d]) c ⟨v,[],rfl,r2,rfl⟩),rfl,q'⟩⟩
def ext3 (i:Nat) (b3:TB3) (Γ:G) (Q:RV→G→Prop):Prop:=(∃ xs,cj Γ i=some xs)∧b3 Γ fun r Γ1=>∃ xs ys,cj Γ1 i=some xs∧r.at Γ1=some (.lst ys)∧xs.length + ys.length≤sizeLine∧Q (.fz .non) (putD Γ1 i (.lst (xs++ys)))
theorem zJ {te:TE} {e3:TB3} (i:Nat) (h:n9 K te e3):Ref K (tBM K "list" qa (iQ i) (mS te mR)) (ext3 i e3):=by
 intro B F σ H Γ Q QQ e ⟨⟨xs0,h0⟩,q⟩ k
 obtain⟨p,vs0,a0,b0,_⟩:=e.cj h0
 refine⟨_,a0,t8 b0,h B F σ H Γ _ _ e q fun v H' ⟨F2,Γ',r,s,e2,rv,xs,ys,hx,hy,hz,q'⟩=>?_⟩
 obtain⟨p2,ws,rfl,b2,c2⟩:=e2.bo rv hy
 obtain⟨p',vs,a,b,c⟩:=e2.cj hx
 rw[a0] at a;cases a
 exact⟨p,p2,vs,ws,rfl,rfl,b,b2,by rw[c.length,c2.length];exact hz,k _ _ ⟨F2,_,.fz .non,s,e2.mut hx a0 (c.append c2),rfl,q'⟩⟩
def Ed (i:Nat) (f:List D→List D) (Γ:G) (Q:RV→G→Prop):Prop:=∃ xs,cj Γ i=some xs∧Q (.fz .non) (putD Γ i (.lst (f xs)))
variable {o e:Expr} {te:TE} {e3:TE3} {eb:TB3} {apos cpos:Pos}
theorem vL (i:Nat) {x:Str} {px:Pos} (hK:X.K=K) (hx:P3B K X (.Name x px) (iQ i) (bor i)) (he:P3 K X e te e3) (hbase:attributeBase (.Name x px) "append" X.env (eval (.Name x px) X.env)=eval (.Name x px) X.env:=by rfl)
  (hfew:((backTo cpos (starEach [e] X.env)).all (fun x=>!x.1) && (backToKw cpos (keywordEach [] X.env)).all (fun x=>x.1.isSome)
   && decide ([e].length + ([]:List Keyword).length + (if ([]:List Keyword).isEmpty then 0 else 1) < 30))=true:=by rfl)
  (hline:(apos.endLine == cpos.line)=true:=by rfl) (hs:starEach [e] X.env=(false,eval e X.env)::starEach [] X.env:=by rfl) (hplain:(backTo cpos (starEach [] X.env)).any (·.1)=false:=by rfl) :
  P3 K X (.Call (.Attribute (.Name x px) "append" apos) [e] [] cpos) (tBM K "list" qb (iQ i) (mS te mR)) (D4 i e3):=
 ⟨by subst hK;exact A6 PySem.F.plainAttrs_list PySem.F.slot_list_append PySem.F.type_list_append vO hx.pe (cT he.pe ja hs) hbase hfew hline hs hplain,zK i he.rf⟩
theorem oQ (i:Nat) {x:Str} {px:Pos} (hK:X.K=K) (hx:P3B K X (.Name x px) (iQ i) (bor i)) (he:P3B K X e te eb) (hbase:attributeBase (.Name x px) "extend" X.env (eval (.Name x px) X.env)=eval (.Name x px) X.env:=by rfl)
  (hfew:((backTo cpos (starEach [e] X.env)).all (fun x=>!x.1) && (backToKw cpos (keywordEach [] X.env)).all (fun x=>x.1.isSome)
   && decide ([e].length + ([]:List Keyword).length + (if ([]:List Keyword).isEmpty then 0 else 1) < 30))=true:=by rfl)
  (hline:(apos.endLine == cpos.line)=true:=by rfl) (hs:starEach [e] X.env=(false,eval e X.env)::starEach [] X.env:=by rfl) (hplain:(backTo cpos (starEach [] X.env)).any (·.1)=false:=by rfl) :
  P3 K X (.Call (.Attribute (.Name x px) "extend" apos) [e] [] cpos) (tBM K "list" qa (iQ i) (mS te mR)) (ext3 i eb):=
 ⟨by subst hK;exact A6 PySem.F.plainAttrs_list PySem.F.slot_list_extend PySem.F.type_list_extend vN hx.pe (cT he.pe ja hs) hbase hfew hline hs hplain,zJ i he.rf⟩
def uf (i:Nat) (k3:TB3) (e3:TE3) (D:E3) (Γ:G):Prop:=e3 Γ fun r Γ1=>(∃ xs,cj Γ1 i=some xs)∧k3 Γ1 fun b Γ2=>∃ xs k j,cj Γ2 i=some xs∧b.at Γ2=some (.int k)∧ixN xs.length k=some j∧D.nx (putD Γ2 i (.lst (xs.set j r.d)))
theorem zA (i:Nat) {x:Str} {px p2:Pos} {k:Expr} {tk:TE} {k3:TB3} (hx:P3B K X (.Name x px) (iQ i) (bor i)) (hk:P3B K X k tk k3) (he:P3 K X e te e3) (pe:PS X (.Assign [.Subscript (.Name x px) k p2] e pos) (pR te (Au (iQ i) tk ur))) :
  P3S K X (.Assign [.Subscript (.Name x px) k p2] e pos) (pR te (Au (iQ i) tk ur)) (uf i k3 e3):=⟨pe,fun B F σ H Γ D D3 e k q=>
 he.rf B F σ H Γ _ _ e q fun v H' ⟨F',Γ',r,s,e',rv,⟨xs0,h0⟩,q'⟩=>by
  obtain⟨F2,s2,e2,r2⟩:=e'.frozen rv
  obtain⟨p,vs0,a0,b0,_⟩:=e2.cj h0
  refine⟨_,a0,hk.rf B F2 σ H' Γ' _ _ e2 q' fun u H2 ⟨F3,Γ3,bo,s3,e3,rb,xs,kk,j,hx,hb,hj,q3⟩=>?_⟩
  obtain⟨p',vs,a,b,c⟩:=e3.cj hx
  rw[a0] at a;cases a
  have hu:u=.int kk:=e3.bo rb hb
  exact⟨p,vs,kk,j,rfl,hu,b,by rw[c.length];exact hj,k.nx F3 σ _ _ ((s.trans s2).trans s3) (e3.mut hx a0 (aA.set (r2.mono s3) j c)) q3⟩⟩
end
end L3
namespace L3
open PySem L2 PySem.Spec
section
variable {K:PySem.W.Frag} {X:Cx} {B:Bs} {F H:Hp} {σ:L2.St} {Γ:G} {pos:Pos}
def iP:Option (Option Sl)→Option Sl
 | some (some (.fz d))=>some (.fz d)
 | some (some (.ow d))=>some (.ln d)
 | some (some (.ln d))=>some (.ln d)
 | _=>none
def qT (Γ:G):Bo→Option Sl
 | .d x=>some (.fz x)
 | .v i=>iP Γ[i]?
def cn:Option Bo→Option Nat
 | some (.v i)=>some i
 | _=>none
def xJ (Γ:G) (σ:L2.St) (k:Nat):Option Bo→Option (Nat×Addr)
 | some (.v i)=>match Γ[i]?,σ[i]? with
  | some (some (.ow _)),some (some (.ref p))=>some (k,p)
  | some (some (.ln _)),some (some (.ref p))=>some (k,p)
  | _,_=>none
 | _=>none
def ownOf (Γ:G) (σ:L2.St) (bs:List (Option Bo)):List (Nat×Addr):=(List.range bs.length).filterMap fun k=>(bs[k]?).bind (xJ Γ σ k)
theorem lG {bs:List (Option Bo)} {k:Nat} {p:Addr}:(k,p)∈ownOf Γ σ bs↔∃ i d,bs[k]?=some (some (Bo.v i))∧Hld Γ i d∧σ[i]?=some (some (V.ref p)):=by
 unfold ownOf
 rw[List.mem_filterMap]
 constructor
 ·rintro⟨k',_,h⟩
  cases q:bs[k']? with
  | none=>rw[q] at h;cases h
  | some o=>
   rw[q] at h
   change xJ Γ σ k' o=some (k,p) at h
   unfold xJ at h
   split at h
   ·rename_i i
    split at h
    ·rename_i d p' h1 h2
     cases h
     exact⟨i,d,q,.inl h1,h2⟩
    ·rename_i d p' h1 h2
     cases h
     exact⟨i,d,q,.inr h1,h2⟩
    ·cases h
   ·cases h
 ·rintro⟨i,d,h1,h2,h3⟩
  refine⟨k,List.mem_range.mpr (List.getElem?_eq_some_iff.mp h1).1,?_⟩
  rw[h1]
  show xJ Γ σ k (some (Bo.v i))=_
  unfold xJ
  rcases h2 with h2 | h2
  ·simp only[h2,h3]
  ·simp only[h2,h3]
def eK (Γ:G) (bs:List (Option Bo)):G:=bs.map fun o=>o.bind (qT Γ)
theorem hG {bs:List (Option Bo)} {k:Nat} {s:Sl}:(eK Γ bs)[k]?=some (some s)↔∃ bo,bs[k]?=some (some bo)∧qT Γ bo=some s:=by
 unfold eK
 rw[List.getElem?_map]
 constructor
 ·intro h
  cases q:bs[k]? with
  | none=>rw[q] at h;cases h
  | some o=>
   rw[q] at h
   cases o with
   | none=>cases h
   | some bo=>exact⟨bo,rfl,by simpa using h⟩
 ·rintro⟨bo,h1,h2⟩
  rw[h1];simp [h2]
theorem AG {bo:Bo} {d:D} (h:qT Γ bo=some (.ln d)):∃ i,bo=.v i∧Hld Γ i d:=by
 cases bo with
 | d x=>cases h
 | v i=>
  change iP Γ[i]?=_ at h
  unfold iP at h
  split at h
  ·cases h
  ·cases h;rename_i q;exact⟨i,rfl,.inl q⟩
  ·cases h;rename_i q;exact⟨i,rfl,.inr q⟩
  ·cases h
theorem AH {bo:Bo} {d:D} (h:qT Γ bo=some (.fz d)):bo=.d d∨∃ i,bo=.v i∧Γ[i]?=some (some (Sl.fz d)):=by
 cases bo with
 | d x=>cases h;exact .inl rfl
 | v i=>
  change iP Γ[i]?=_ at h
  unfold iP at h
  split at h
  ·cases h;rename_i q;exact .inr ⟨i,rfl,q⟩
  ·cases h
  ·cases h
  ·cases h
theorem qS {bo:Bo} {d:D}:qT Γ bo≠some (.ow d):=by
 intro h
 cases bo with
 | d x=>cases h
 | v i=>change iP Γ[i]?=_ at h;unfold iP at h;split at h <;> cases h
theorem mM {bs:List (Option Bo)}:∀ (k:Nat) (d:D),(eK Γ bs)[k]?≠some (some (Sl.ow d)):=fun k d h=>by
 obtain⟨bo,_,h⟩:=hG.mp h
 exact qS h
theorem En.inner (e:En K B F σ H Γ) {bs:List (Option Bo)} {σc:L2.St} (hl:σc.length=bs.length) (hσ:∀ (k:Nat) (bo:Bo) (s:Sl),bs[k]?=some (some bo)→qT Γ bo=some s→∃ v,σc[k]?=some (some v)∧mf K F σ bo v)
  (nd:∀ (k k' i:Nat),bs[k]?=some (some (Bo.v i))→bs[k']?=some (some (Bo.v i))→k=k'):En K ⟨F,H,ownOf Γ σ bs⟩ F σc H (eK Γ bs):=by
 have held:∀ {k d},Hld (eK Γ bs) k d→∃ i p,bs[k]?=some (some (Bo.v i))∧Hld Γ i d∧σ[i]?=some (some (V.ref p))∧σc[k]?=some (some (V.ref p)):=fun {k d} q=>by
  rcases q with q | q
  ·obtain⟨bo,h1,h2⟩:=hG.mp q
   exact absurd h2 qS
  ·obtain⟨bo,h1,h2⟩:=hG.mp q
   obtain⟨v,h3,h4⟩:=hσ k bo _ h1 h2
   obtain⟨i,rfl,h5⟩:=AG h2
   obtain⟨p,h6,_⟩:=e.hl i d h5
   rw[show σ[i]?=some (some v) from h4] at h6;cases h6
   exact⟨i,p,h1,h5,h4,h3⟩
 refine⟨e.sub,by unfold eK;rw[List.length_map];exact hl,?_,?_,?_,?_,?_,?_,aG.refl F,fun b o h=>.inl h,fun b o h _=>h,fun b h=>h⟩
 ·intro k d q
  obtain⟨bo,h1,h2⟩:=hG.mp q
  obtain⟨v,h3,h4⟩:=hσ k bo _ h1 h2
  refine⟨v,h3,?_⟩
  rcases AH h2 with rfl | ⟨i,rfl,h5⟩
  ·exact h4
  ·obtain⟨u,h6,h7⟩:=e.fz i d h5
   rw[show σ[i]?=some (some v) from h4] at h6;cases h6
   exact h7
 ·intro k d q
  obtain⟨i,p,h1,h2,h3,h4⟩:=held q
  obtain⟨p',h5,h6,h7⟩:=e.hl i d h2
  rw[h3] at h5;cases h5
  exact⟨p,h4,h6,h7⟩
 ·intro k d p q
  obtain⟨bo,h1,h2⟩:=hG.mp q
  exact absurd h2 qS
 ·intro k d p q a
  obtain⟨i,p',h1,h2,h3,h4⟩:=held (.inr q)
  rw[a] at h4;cases h4
  exact lG.mpr ⟨i,d,h1,h2,h3⟩
 ·intro k k' d d' p q1 q2 a1 a2
  obtain⟨i,p1,h1,h2,h3,h4⟩:=held q1
  obtain⟨i',p2,h1',h2',h3',h4'⟩:=held q2
  rw[a1] at h4;cases h4
  rw[a2] at h4';cases h4'
  have:=e.dis i i' d d' p h2 h2' h3 h3'
  subst this
  exact nd k k' i h1 h1'
 ·intro k p q
  obtain⟨i,d,h1,h2,h3⟩:=lG.mp q
  have ha:qT Γ (.v i)=some (.ln d):=by
   show iP Γ[i]?=_
   rcases h2 with h2 | h2 <;> rw[h2] <;> rfl
  obtain⟨v,h4,h5⟩:=hσ k _ _ h1 ha
  rw[show σ[i]?=some (some v) from h5] at h3;cases h3
  exact⟨h4,d,hG.mpr ⟨_,h1,ha⟩⟩
theorem nq {bs:List (Option Bo)}:∀ k p,(k,p)∈ownOf Γ σ bs→∃ j d,(bs.map cn)[k]?=some (some j)∧Hld Γ j d∧σ[j]?=some (some (V.ref p)):=fun k p h=>by
 obtain⟨i,d,h1,h2,h3⟩:=lG.mp h
 exact⟨i,d,by rw[List.getElem?_map,h1];rfl,h2,h3⟩
def eY (fr:List (Option Nat)):List (Option Bo):=fr.map fun o=>o.map Bo.v
def sf (fr:List (Option Nat)) (i3:TI3) (g3:TG3) (e3:TE3) (Γ:G) (Q:RV→G→Prop):Prop:=i3 Γ fun xs Γ1=>xs.length < sizeLine∧∃ Iv:Nat→List D→G→Prop,Iv 0 [] (eK Γ1 (eY fr))∧
 (∀ k d ys Γc,xs[k]?=some d→ys.length=k→Iv k ys Γc→g3 d Γc fun Γ2=>e3 Γ2 fun r Γ3=>Iv (k + 1) (ys++[r.d]) Γ3)∧∀ ys Γc,ys.length=xs.length→Iv xs.length ys Γc→Q (.fr (.lst ys)) (bK fr Γ1 Γc)
theorem zc {fr:List (Option Nat)} (h:(fr.filterMap id).Nodup):∀ (k k' i:Nat),(eY fr)[k]?=some (some (Bo.v i))→(eY fr)[k']?=some (some (Bo.v i))→k=k':=by
 unfold eY
 have go:∀ (l:List (Option Nat)),(l.filterMap id).Nodup→∀ (k k' i:Nat),l[k]?=some (some i)→l[k']?=some (some i)→k=k':=by
  intro l
  induction l with
  | nil=>intro _ k k' i h;simp at h
  | cons o l ih=>
   intro hn k k' i h h'
   cases o with
   | none=>
    rw[List.filterMap_cons_none rfl] at hn
    cases k with
    | zero=>simp at h
    | succ k=>
     cases k' with
     | zero=>simp at h'
     | succ k'=>rw[ih hn k k' i (by simpa using h) (by simpa using h')]
   | some j=>
    rw[show List.filterMap id (some j::l)=j::List.filterMap id l from rfl,List.nodup_cons] at hn
    have mem:∀ {k:Nat},l[k]?=some (some i)→i∈l.filterMap id:=fun q=>List.mem_filterMap.mpr ⟨some i,List.mem_of_getElem? q,rfl⟩
    cases k with
    | zero=>
     simp at h;subst h
     cases k' with
     | zero=>rfl
     | succ k'=>exact absurd (mem (by simpa using h')) hn.1
    | succ k=>
     cases k' with
     | zero=>
      simp at h';subst h'
      exact absurd (mem (by simpa using h)) hn.1
     | succ k'=>rw[ih hn.2 k k' i (by simpa using h) (by simpa using h')]
 intro k k' i h1 h2
 refine go fr h k k' i ?_ ?_
 ·rw[List.getElem?_map] at h1
  cases q:fr[k]? with
  | none=>rw[q] at h1;cases h1
  | some o=>rw[q] at h1;cases o with | none=>cases h1 | some j=>cases h1;rfl
 ·rw[List.getElem?_map] at h2
  cases q:fr[k']? with
  | none=>rw[q] at h2;cases h2
  | some o=>rw[q] at h2;cases o with | none=>cases h2 | some j=>cases h2;rfl
theorem rR {fr:List (Option Nat)}:(eY fr).map cn=fr:=by
 unfold eY
 rw[List.map_map]
 conv=>rhs;rw[← List.map_id fr]
 refine List.map_congr_left fun o _=>?_
 cases o <;> rfl
theorem En.blk (e:En K B F σ H Γ) {fr:List (Option Nat)} (nd:(fr.filterMap id).Nodup):En K ⟨F,H,ownOf Γ σ (eY fr)⟩ F (jw fr σ) H (eK Γ (eY fr)):=by
 refine e.inner (by unfold jw eY;simp) (fun k bo s h1 h2=>?_) (zc nd)
 unfold eY at h1
 rw[List.getElem?_map] at h1
 cases q:fr[k]? with
 | none=>rw[q] at h1;cases h1
 | some o=>
  rw[q] at h1
  cases o with
  | none=>cases h1
  | some j=>
   cases h1
   have:∃ d,Gat Γ j=some d:=by
    change iP Γ[j]?=_ at h2
    unfold iP at h2
    unfold Gat
    split at h2 <;> first | (cases h2;done) | (rename_i w;rw[w];exact⟨_,rfl⟩) | exact⟨_,rfl⟩
   obtain⟨d,hd⟩:=this
   obtain⟨v,hv,_⟩:=e.get hd
   refine⟨v,?_,hv⟩
   unfold jw
   rw[List.getElem?_map,q]
   simp [hv]
theorem rq {fr:List (Option Nat)} {wi:TI} {i3:TI3} {g:TG} {g3:TG3} {te:TE} {e3:TE3} (nd:(fr.filterMap id).Nodup) (hi:AK K wi i3) (hg:zl K g g3) (he:Ref K te e3):Ref K (qZ fr wi g te) (sf fr i3 g3 e3):=by
 intro B F σ H Γ Q QQ e q k
 refine hi B F σ H Γ _ _ e q fun J H1 F1 Γ1 xs s1 e1 R ⟨hz,Iv,i0,it,ie⟩=>?_
 have eb:=e1.blk nd
 refine⟨fun i m ys σc H=>m=xs.length - i∧i≤xs.length∧∃ F' Γc ds,aG F1 F'∧En K ⟨F1,H1,ownOf Γ1 σ (eY fr)⟩ F' σc H Γc∧aA K F' ds ys∧ds.length=i∧Iv i ds Γc,⟨_,rfl,Nat.zero_le _,F1,_,[],aG.refl _,eb,rfl,rfl,i0⟩,?_⟩
 rintro i m ys σc H2 ⟨rfl,hi',F2,Γ2,ds,s2,e2,r2,hl,iv⟩
 refine⟨by rw[r2.length,hl];omega,?_⟩
 by_cases lt:i < xs.length
 ·refine .inr ⟨R.go i H2 (s2.trans e2.sub) lt,fun x H3 y=>?_⟩
  have hd:xs[i]?=some xs[i]:=List.getElem?_eq_getElem lt
  obtain⟨F3,s3,e3',r3⟩:=R.turn s2 e2 hd y
  refine hg _ F3 σc H3 Γ2 x _ _ _ e3' r3 (it i _ ds Γ2 hd hl iv) fun σ2 Γ4 e4 q4=>?_
  refine⟨fun y H5=>∃ F5 Γ5 r,aG F3 F5∧En K ⟨F1,H1,ownOf Γ1 σ (eY fr)⟩ F5 σ2 H5 Γ5∧k8 K ⟨F1,H1,ownOf Γ1 σ (eY fr)⟩ F5 σ2 H5 Γ5 y r∧Iv (i + 1) (ds++[r.d]) Γ5,fun y H5 ⟨F5,Γ5,r,s5,e5,rv,iv5⟩=>?_,he _ F3 σ2 H3 Γ4 _ _ e4 q4 fun v H' p=>p⟩
  obtain⟨F6,s6,e6,r6⟩:=e5.frozen rv
  refine⟨xs.length - (i + 1),by omega,rfl,lt,F6,Γ5,ds++[r.d],((s2.trans s3).trans s5).trans s6,e6,?_,by simp [hl],iv5⟩
  exact aA.append (ys:=[r.d]) (r2.mono ((s3.trans s5).trans s6)) ⟨y,[],rfl,r6,rfl⟩
 ·have z:i=xs.length:=by omega
  subst z
  refine .inl ⟨R.stop _ H2 (s2.trans e2.sub) rfl,fun l hl'=>k _ _ ?_⟩
  have eo:En K B F2 σ H2 (bK fr Γ1 Γ2):=e1.back (ls:=fr) e2 (by have:=nq (Γ:=Γ1) (σ:=σ) (bs:=eY fr);rw[rR] at this;exact this)
  exact Po.mono (s1.trans s2) (jE eo hl' r2 (ie ds Γ2 hl iv))
theorem gq {elt iter tg:Expr} {sc:Scope} {Nc:List Str} {fr:List (Option Nat)} {wi:TI} {i3:TI3} {g:TG} {g3:TG3} {te:TE} {e3:TE3} (hc:X.calm=true) (hi:P3I K X tg iter wi i3) (Bk:Blk X.N X.env.scope sc Nc fr)
  (hg:∀ s₀ H₀ C ex pn,P3G K (a_ X sc Nc s₀ H₀ C ex pn) tg g g3) (he:∀ s₀ H₀ C ex pn,P3 K (a_ X sc Nc s₀ H₀ C ex pn) elt te e3) (nd:(fr.filterMap id).Nodup:=by decide) (hs:∀ x,foldedSetIterable iter X.env x=pure x:=by intro _;rfl) :
  P3 K X (.ListComp elt [⟨tg,iter,[],0⟩] sc pos) (qZ fr wi g te) (sf fr i3 g3 e3):=
 ⟨z6 hc hi.pe Bk (fun a b c d e=>(hg a b c d e).pe) (fun a b c d e=>(he a b c d e).pe) hs,rq nd hi.rf (hg X.s₀ X.H₀ 0 [] []).rf (he X.s₀ X.H₀ 0 [] []).rf⟩
theorem m7 {i:Nat} {x:Str} {px spos:Pos} {elt iter tg:Expr} {sc:Scope} {Nc:List Str} {fr:List (Option Nat)} {wi:TI} {i3:TI3} {g:TG} {g3:TG3} {te:TE} {e3:TE3} (hN:X.N.Nodup) (hi':X.N[i]?=some x) (hx:X.env.scope.names.lookup x=some .local)
  (hc:X.calm=true) (hi:P3I K X tg iter wi i3) (Bk:Blk X.N X.env.scope sc Nc fr)
  (hg:∀ s₀ H₀ C ex pn,P3G K (a_ X sc Nc s₀ H₀ C ex pn) tg g g3) (he:∀ s₀ H₀ C ex pn,P3 K (a_ X sc Nc s₀ H₀ C ex pn) elt te e3) (nd:(fr.filterMap id).Nodup:=by decide)
  (hsw:swapsWith (.ListComp elt [⟨tg,iter,[],0⟩] sc pos) (some (.Name x px)) spos.line X.env=pure true:=by rfl) (hs:∀ x,foldedSetIterable iter X.env x=pure x:=by intro _;rfl) :
  P3S K X (.Assign [.Name x px] (.ListComp elt [⟨tg,iter,[],0⟩] sc pos) spos) (pR (qZ fr wi g te) (lU i)) (zz i (sf fr i3 g3 e3)):=
 ⟨sX hN hi' hx hc hi.pe Bk (fun a b c d e=>(hg a b c d e).pe) (fun a b c d e=>(he a b c d e).pe) hsw hs,uo (rq nd hi.rf (hg X.s₀ X.H₀ 0 [] []).rf (he X.s₀ X.H₀ 0 [] []).rf)⟩
abbrev S3:=G→(RV→G→Prop)→Prop
def sp3 (K:PySem.W.Frag) (n:Nat) (S:S3):Sp:=fun vs H Q _=>vs.length=n∧∃ F own Γa Q3,En K ⟨F,H,own⟩ F (vs.map some) H Γa∧(∀ (k:Nat) (d:D),Γa[k]?≠some (some (Sl.ow d)))∧S Γa Q3∧∀ r Γ',Q3 r Γ'→∀ v H' F',En K ⟨F,H,own⟩ F' (vs.map some) H' Γ'→k8 K ⟨F,H,own⟩ F' (vs.map some) H' Γ' v r→Q v H'
def eM:List Bo→List Nat
 | []=>[]
 | .d _::bs=>eM bs
 | .v i::bs=>i::eM bs
def qL (n:Nat) (S:S3) (t3:cq) (Γ:G) (Q:RV→G→Prop):Prop:=t3 Γ fun bs Γ1=>bs.length=n∧(eM bs).Nodup∧S (eK Γ1 (bs.map some)) fun r Γa=>Q r (bK ((bs.map some).map cn) Γ1 Γa)
theorem x8:∀ {bs:List Bo},(eM bs).Nodup→∀ (k k' i:Nat),(bs.map some)[k]?=some (some (Bo.v i))→(bs.map some)[k']?=some (some (Bo.v i))→k=k':=by
 intro bs h k k' i h1 h2
 have key:((((bs.map some).map cn)).filterMap id)=eM bs:=by
  clear h h1 h2
  induction bs with
  | nil=>rfl
  | cons b bs ih=>cases b with
   | d x=>simpa [cn,eM] using ih
   | v j=>simpa [cn,eM] using ih
 rw[← key] at h
 refine zc h k k' i ?_ ?_
 ·unfold eY
  rw[List.getElem?_map,List.getElem?_map,h1];rfl
 ·unfold eY
  rw[List.getElem?_map,List.getElem?_map,h2];rfl
theorem gc.get {F:Hp}:∀ {bs:List Bo} {vs:List V},gc K F σ bs vs→∀ {k:Nat} {bo:Bo},bs[k]?=some bo→∃ v,vs[k]?=some v∧mf K F σ bo v
 | [],_,_,k,bo,e=>by simp at e
 | x::xs,_,⟨v,ws,h1,h2,h3⟩,0,d,e=>by subst h1;simp at e;subst e;exact⟨v,rfl,h2⟩
 | x::xs,_,⟨v,ws,h1,h2,h3⟩,i + 1,d,e=>by
  subst h1
  obtain⟨u,a,b⟩:=gc.get h3 (k:=i) (bo:=d) (by simpa using e)
  exact⟨u,by simpa using a,b⟩
theorem gc.length {F:Hp}:∀ {bs:List Bo} {vs:List V},gc K F σ bs vs→vs.length=bs.length
 | [],_,h=>by cases h;rfl
 | _::_,_,⟨v,ws,h1,h2,h3⟩=>by subst h1;simp [gc.length h3]
theorem En.args (e:En K B F σ H Γ) {bs:List Bo} {vs:List V} (r:gc K F σ bs vs) (nd:(eM bs).Nodup):En K ⟨F,H,ownOf Γ σ (bs.map some)⟩ F (vs.map some) H (eK Γ (bs.map some)):=by
 refine e.inner (by simp [r.length]) (fun k bo s h1 h2=>?_) (x8 nd)
 rw[List.getElem?_map] at h1
 cases q:bs[k]? with
 | none=>rw[q] at h1;cases h1
 | some b=>
  rw[q] at h1;cases h1
  obtain⟨v,a,b⟩:=r.get q
  exact⟨v,by rw[List.getElem?_map,a];rfl,b⟩
theorem En.called (e:En K B F σ H Γ) {F' H':Hp} {bs:List (Option Bo)} {σc:L2.St} {Γa:G} {v:V} {r:RV} (e2:En K ⟨F,H,ownOf Γ σ bs⟩ F' σc H' Γa) (rv:k8 K ⟨F,H,ownOf Γ σ bs⟩ F' σc H' Γa v r) :
  aG F F'∧En K B F' σ H' (bK (bs.map cn) Γ Γa)∧k8 K B F' σ H' (bK (bs.map cn) Γ Γa) v r:=by
 have eo:=e.back e2 nq
 refine⟨e2.keep,eo,?_⟩
 have nw:∀ {p:Addr},H p=none→∀ (i:Nat) (x:D),Hld (bK (bs.map cn) Γ Γa) i x→σ[i]?≠some (some (V.ref p)):=fun {p} h4' i x hx hp=>by
  obtain⟨d0,w⟩:∃ d0,Hld Γ i d0:=by
   rcases hx with hx | hx <;> rw[fh] at hx
   ·cases w:Γ[i]? with
    | none=>rw[w] at hx;cases hx
    | some s=>rw[w] at hx;cases s with
     | none=>cases hx
     | some s=>cases s with
      | fz d=>cases hx
      | ow d=>exact⟨d,.inl w⟩
      | ln d=>cases hx
   ·cases w:Γ[i]? with
    | none=>rw[w] at hx;cases hx
    | some s=>rw[w] at hx;cases s with
     | none=>cases hx
     | some s=>cases s with
      | fz d=>cases hx
      | ow d=>cases hx
      | ln d=>exact⟨d,.inr w⟩
  obtain⟨p',a,b,c⟩:=e.hl i d0 w
  rw[hp] at a;cases a
  obtain⟨o,ho⟩:=c.some
  rw[h4'] at ho;cases ho
 cases r with
 | fz d=>exact rv
 | fr d=>
  obtain⟨p,h1,h2,h3,h4,h5⟩:=rv
  exact⟨p,h1,h2,h3,e.dom p h4,nw h4⟩
 | two xs ys=>
  obtain⟨t,p,q,vs,ws,h1,h2,h3,h4,h5,h6,h7,h8⟩:=rv
  exact⟨t,p,q,vs,ws,h1,h2,h3,h4,h5,h6,h7,fun z hz=>⟨(h8 z hz).1,e.dom z (h8 z hz).2.1,nw (h8 z hz).2.1⟩⟩
 | rws xss=>
  obtain⟨p,qs,h1,h2,h3,h4,h8⟩:=rv
  exact⟨p,qs,h1,h2,h3,h4,fun z hz=>⟨(h8 z hz).1,e.dom z (h8 z hz).2.1,nw (h8 z hz).2.1⟩⟩
theorem rz {t:TA} {t3:cq} {S:S3} {n:Nat} {E:XK} (h:pI K t t3):Ref K (oC (sp3 K n S) [] E t) (qL n S t3):=by
 intro B F σ H Γ Q QQ e q k
 refine h B F σ H Γ _ _ e q fun vs H1 ⟨F1,Γ1,bs,s1,e1,r1,hn,nd,q1⟩=>?_
 show sp3 K n S (vs++[]) H1 QQ E
 rw[List.append_nil]
 refine⟨by rw[r1.length];exact hn,F1,_,_,_,e1.args r1 nd,mM,q1,fun r Γa q v H' F' e2 rv=>?_⟩
 obtain⟨a,b,c⟩:=e1.called e2 rv
 exact k v H' ⟨F',_,r,s1.trans a,b,c,q⟩
def gP (Γa Γ':G):G:=Γa.mapIdx fun k s=>match s with
 | some (.ln d)=>(match Γ'[k]? with
  | some (some (.ln d'))=>some (.ln d')
  | _=>some (.ln d))
 | s=>s
theorem Aa {Γa Γ':G} {k:Nat} {d:D} (h:Γa[k]?=some (some (Sl.ln d))) {d':D} (h':Γ'[k]?=some (some (Sl.ln d'))):(gP Γa Γ')[k]?=some (some (Sl.ln d')):=by
 unfold gP
 rw[List.getElem?_mapIdx,h]
 simp [h']
theorem kD {Γa Γ':G} {k:Nat} {s:Sl} (h:(gP Γa Γ')[k]?=some (some s)):(∃ d d',Γa[k]?=some (some (Sl.ln d))∧s=.ln d')∨(Γa[k]?=some (some s)∧∀ d,s≠.ln d):=by
 unfold gP at h
 rw[List.getElem?_mapIdx] at h
 cases w:Γa[k]? with
 | none=>rw[w] at h;cases h
 | some o=>
  rw[w] at h
  cases o with
  | none=>cases h
  | some s'=>
   cases s' with
   | fz d=>cases h;exact .inr ⟨rfl,fun d z=>by cases z⟩
   | ow d=>cases h;exact .inr ⟨rfl,fun d z=>by cases z⟩
   | ln d=>
    left
    simp only[Option.map_some,Option.some.injEq] at h
    split at h
    ·cases h;exact⟨d,_,rfl,rfl⟩
    ·cases h;exact⟨d,_,rfl,rfl⟩
theorem En.out {F0 H0 F' H':Hp} {own:List (Nat×Addr)} {σa σ':L2.St} {Γa Γ':G} (e0:En K ⟨F0,H0,own⟩ F0 σa H0 Γa) (hno:∀ (k:Nat) (d:D),Γa[k]?≠some (some (Sl.ow d))) (e1:En K ⟨F0,H0,own⟩ F' σ' H' Γ') {v:V} {r:RV} (rv:k8 K ⟨F0,H0,own⟩ F' σ' H' Γ' v r) :
  En K ⟨F0,H0,own⟩ F' σa H' (gP Γa Γ')∧k8 K ⟨F0,H0,own⟩ F' σa H' (gP Γa Γ') v r:=by
 have lnk:∀ {k:Nat} {d:D},Γa[k]?=some (some (Sl.ln d))→∃ p d',(k,p)∈own∧σa[k]?=some (some (V.ref p))∧σ'[k]?=some (some (V.ref p))∧Γ'[k]?=some (some (Sl.ln d'))∧(gP Γa Γ')[k]?=some (some (Sl.ln d')):=fun {k d} h=>by
  obtain⟨p,a,b,c⟩:=e0.hl k d (.inr h)
  have m:=e0.ln k d p h a
  obtain⟨a',d',b'⟩:=e1.par k p m
  exact⟨p,d',m,a,a',b',Aa h b'⟩
 have hld:∀ {k:Nat} {d:D},Hld (gP Γa Γ') k d→∃ p d0,Γa[k]?=some (some (Sl.ln d0))∧(k,p)∈own∧σa[k]?=some (some (V.ref p))∧σ'[k]?=some (some (V.ref p))∧Γ'[k]?=some (some (Sl.ln d)):=fun {k d} h=>by
  rcases h with h | h
  ·rcases kD h with ⟨d1,d2,_,z⟩ | ⟨z,_⟩
   ·cases z
   ·exact absurd z (hno k d)
  ·rcases kD h with ⟨d1,d2,z,_⟩ | ⟨_,z⟩
   ·obtain⟨p,d',m,a,a',b',c'⟩:=lnk z
    rw[h] at c';cases c'
    exact⟨p,d1,z,m,a,a',b'⟩
   ·exact absurd rfl (z d)
 refine⟨⟨e1.sub,?_,?_,?_,?_,?_,?_,?_,e1.keep,e1.new,e1.rest,e1.dom⟩,?_⟩
 ·unfold gP;rw[List.length_mapIdx];exact e0.len
 ·intro k d q
  rcases kD q with ⟨d1,d2,_,z⟩ | ⟨z,_⟩
  ·cases z
  ·obtain⟨u,a,b⟩:=e0.fz k d z
   exact⟨u,a,b.mono e1.keep⟩
 ·intro k d q
  obtain⟨p,d0,_,m,a,a',b⟩:=hld q
  obtain⟨p',x,y,z⟩:=e1.hl k d (.inr b)
  rw[a'] at x;cases x
  exact⟨p,a,y,z⟩
 ·intro k d p q
  rcases kD q with ⟨d1,d2,_,z⟩ | ⟨z,_⟩
  ·cases z
  ·exact absurd z (hno k d)
 ·intro k d p q a
  obtain⟨p',d0,_,m,a',_⟩:=hld (.inr q)
  rw[a] at a';cases a'
  exact m
 ·intro k k' d d' p q1 q2 a1 a2
  obtain⟨p1,d1,z1,_⟩:=hld q1
  obtain⟨p2,d2,z2,_⟩:=hld q2
  exact e0.dis k k' d1 d2 p (.inr z1) (.inr z2) a1 a2
 ·intro k p q
  obtain⟨a,d,b⟩:=e0.par k p q
  obtain⟨p',d',m,a',_,_,c⟩:=lnk b
  exact⟨a,d',c⟩
 ·cases r with
  | fz d=>exact rv
  | fr d=>
   obtain⟨p,h1,h2,h3,h4,h5⟩:=rv
   refine⟨p,h1,h2,h3,h4,fun k x hx a=>?_⟩
   obtain⟨p',d0,_,m,a',b',c'⟩:=hld hx
   rw[a] at a';cases a'
   exact h5 k x (.inr c') b'
  | two xs ys=>
   obtain⟨t,p,q,vs,ws,h1,h2,h3,h4,h5,h6,h7,h8⟩:=rv
   refine⟨t,p,q,vs,ws,h1,h2,h3,h4,h5,h6,h7,fun z hz=>⟨(h8 z hz).1,(h8 z hz).2.1,fun k x hx a=>?_⟩⟩
   obtain⟨p',d0,_,m,a',b',c'⟩:=hld hx
   rw[a] at a';cases a'
   exact(h8 z hz).2.2 k x (.inr c') b'
  | rws xss=>
   obtain⟨p,qs,h1,h2,h3,h4,h8⟩:=rv
   refine⟨p,qs,h1,h2,h3,h4,fun z hz=>⟨(h8 z hz).1,(h8 z hz).2.1,fun k x hx a=>?_⟩⟩
   obtain⟨p',d0,_,m,a',b',c'⟩:=hld hx
   rw[a] at a';cases a'
   exact(h8 z hz).2.2 k x (.inr c') b'
end
end L3
namespace L3
open PySem L2 PySem.Spec PyProof.Rows
def gH (N:List Str) (Γa:G):G:=Γa++List.replicate (N.length - Γa.length) none
section
variable {P:Program} {w:World} {K:PySem.W.Frag} {mg:Str→Option Value} {base:Heap}
theorem En.start {B:Bs} {F H:Hp} {vs:List V} {Γa:G} {N:List Str} (e:En K B F (vs.map some) H Γa) (hl:Γa.length≤N.length):En K B F (L2.start N vs) H (gH N Γa):=by
 have len:=e.len
 rw[List.length_map] at len
 have hs:∀ {i:Nat},i < Γa.length→(L2.start N vs)[i]?=(vs.map some)[i]?:=fun {i} h=>by
  unfold L2.start
  rw[List.getElem?_append_left (by rw[List.length_map];omega)]
 have hg:∀ {i:Nat} {s:Sl},(gH N Γa)[i]?=some (some s)→i < Γa.length∧Γa[i]?=some (some s):=fun {i s} h=>by
  unfold gH at h
  by_cases lt:i < Γa.length
  ·rw[List.getElem?_append_left lt] at h;exact⟨lt,h⟩
  ·rw[List.getElem?_append_right (by omega)] at h
   have:=List.mem_of_getElem? h
   rw[List.mem_replicate] at this
   cases this.2
 have hh:∀ {i:Nat} {d:D},Hld (gH N Γa) i d→i < Γa.length∧Hld Γa i d:=fun h=>by
  rcases h with h | h
  ·exact⟨(hg h).1,.inl (hg h).2⟩
  ·exact⟨(hg h).1,.inr (hg h).2⟩
 refine⟨e.sub,?_,?_,?_,?_,?_,?_,?_,e.keep,e.new,e.rest,e.dom⟩
 ·unfold L2.start gH
  simp only[List.length_append,List.length_map,List.length_replicate]
  omega
 ·intro i d q
  obtain⟨lt,q⟩:=hg q
  rw[hs lt];exact e.fz i d q
 ·intro i d q
  obtain⟨lt,q⟩:=hh q
  rw[hs lt];exact e.hl i d q
 ·intro i d p q a
  obtain⟨lt,q⟩:=hg q
  rw[hs lt] at a;exact e.ow i d p q a
 ·intro i d p q a
  obtain⟨lt,q⟩:=hg q
  rw[hs lt] at a;exact e.ln i d p q a
 ·intro i j d d' p q1 q2 a1 a2
  obtain⟨l1,q1⟩:=hh q1
  obtain⟨l2,q2⟩:=hh q2
  rw[hs l1] at a1
  rw[hs l2] at a2
  exact e.dis i j d d' p q1 q2 a1 a2
 ·intro i p q
  obtain⟨a,d,b⟩:=e.par i p q
  have lt:i < Γa.length:=(List.getElem?_eq_some_iff.mp b).1
  refine⟨by rw[hs lt];exact a,d,?_⟩
  unfold gH
  rw[List.getElem?_append_left lt];exact b
theorem ok3 {x qual:Str} {st:Stmt} {f:Addr} {fd:FuncData} {N ps:List Str} {k:Nat} {S:S3} (F:Fun K x qual st f fd) (Sc:av N ps (ag st)) (hN:ps.length≤N.length:=by decide)
  (hbody:∀ (cdv:Value) (A:Around) (outer:List Env) (s:Shared) (H:Hp) (E:XK),bO k (A.deeper (envOfC qual (ag st) s.heap.objs.size f cdv))→
   ∃ t t3,ou K (jO CX0 P w K mg base N qual (ag st) f cdv A outer s H E).nox (eX st) t t3∧∀ Γa Q,S Γa Q→Γa.length=ps.length→t3 { nx:=fun Γ'=>Q (.fz .non) (gP Γa Γ'),rt:=fun r Γ'=>Q r (gP Γa Γ') } (gH N Γa)) :
  aM P w K mg base CX0 (k + 1) f fd ps (sp3 K ps.length S):=by
 refine F.ok Sc (fun vs H Q E h=>h.1) fun cdv A outer s H vs Q E hr h=>?_
 obtain⟨hl,F0,own,Γa,Q3,e,hno,hS,hQ⟩:=h
 obtain⟨t,t3,ht,rd⟩:=hbody cdv A outer s H E hr
 have hla:Γa.length=ps.length:=by rw[← e.len,List.length_map];exact hl
 refine⟨t,ht.pe,ht.rf ⟨F0,H,own⟩ F0 _ H _ _ { nx:=fun Γ'=>Q3 (.fz .non) (gP Γa Γ'),rt:=fun r Γ'=>Q3 r (gP Γa Γ') } (e.start (N:=N) (by rw[hla];exact hN)) ⟨?_,?_,fun _ _ _ _ _ _ z=>False.elim z,fun _ _ _ _ _ _ z=>False.elim z⟩ (rd Γa Q3 hS hla)⟩
 ·intro F' σ' H' Γ' s' e' q
  obtain⟨a,b⟩:=e.out hno e' (v:=.non) (r:=.fz .non) rfl
  exact hQ _ _ q _ _ _ a b
 ·intro F' σ' H' Γ' v r s' e' rv q
  obtain⟨a,b⟩:=e.out hno e' rv
  exact hQ _ _ q _ _ _ a b
end
section
variable {K:PySem.W.Frag} {X:Cx} {k:Nat} {f C:Addr} {fd:FuncData} {ps:List Str} {x m:Str} {p pos apos:Pos} {e o:Expr} {es:List Expr} {ta:TE} {t:TA} {t3:cq} {o3:TB3} {n:Nat} {S:S3}
theorem ao (hK:X.K=K) (F:aM X.prog X.w X.K X.mg X.base CX0 k f fd ps (sp3 K n S)) (hr:bO k X.A) (hg:Gl X x) (hm:X.mg x=some (.ref f)) (hk:PySem.W.keepIn X.K (.ref f)=true) (hb:Binds X.K fd ps [])
  (ha:oy K X (e::es) t t3) (hdb:(x == ("__debug__":Str))=false:=by decide) (he:starEach (e::es) X.env=(false,eval e X.env)::starEach es X.env:=by rfl) (hpl:(backTo pos (starEach es X.env)).any (·.1)=false:=by rfl) :
  P3 K X (.Call (.Name x p) (e::es) [] pos) (oC (sp3 K n S) [] E0 t) (qL n S t3):=⟨z7 F hr hg hm hk hb .nil kC ha.pe hdb he hpl,rz ha.rf⟩
theorem rH (hK:X.K=K) (F:aM X.prog X.w X.K X.mg X.base CX0 k f fd ps (sp3 K n S)) (hr:bO k X.A) (hg:Gl X x) (hm:X.mg x=some (.ref f)) (hk:PySem.W.keepIn X.K (.ref f)=true) (hb:Binds X.K fd ps [])
  (hdb:(x == ("__debug__":Str))=false:=by decide) :
  P3 K X (.Call (.Name x p) [] [] pos) (oC (sp3 K n S) [] E0 mR) (qL n S Ah):=⟨xC F hr hg hm hk hb .nil kC hdb,rz (ae (X:=X)).rf⟩
def gZ (C:Addr) (m:Str) (n:Nat) (S:S3) (o3:TB3) (t3:cq) (Γ:G) (Q:RV→G→Prop):Prop:=o3 Γ fun x Γ1=>(∃ ns xs,x.at Γ1=some (.ins C ns xs)∧m∉ns)∧t3 Γ1 fun bs Γ2=>bs.length + 1=n∧(eM (x::bs)).Nodup∧S (eK Γ2 ((x::bs).map some)) fun r Γa=>Q r (bK (((x::bs).map some).map cn) Γ2 Γa)
theorem vR {ns:List Str}:∀ {gs:List (Str×V)} {m:Str},gs.map (·.1)=ns→m∉ns→gs.lookup m=none:=by
 induction ns with
 | nil=>intro gs m h _;cases gs with | nil=>rfl | cons=>cases h
 | cons a ns ih=>
  intro gs m h hn
  cases gs with
  | nil=>cases h
  | cons g gs=>
   simp only[List.map_cons,List.cons.injEq] at h
   obtain⟨rfl,h⟩:=h
   rw[List.mem_cons,not_or] at hn
   obtain⟨g1,g2⟩:=g
   rw[List.lookup_cons,show (m == g1)=false from beq_eq_false_iff_ne.mpr hn.1]
   exact ih h hn.2
theorem rm (ho:n9 K ta o3) (ha:pI K t t3):Ref K (qY C m (sp3 K n S) [] E0 ta t) (gZ C m n S o3 t3):=by
 intro B F σ H Γ Q QQ e q kk
 refine ho B F σ H Γ _ _ e q fun v H0 ⟨F0,Γ0,bo,s0,e0,r0,⟨ns,xs,hx,hm⟩,q0⟩=>?_
 obtain⟨p,dx,gs,rfl,h1,h2,h3⟩:=e0.bo r0 hx
 refine⟨p,dx,gs,rfl,h1,vR h2 hm,ha B F0 σ H0 Γ0 _ _ e0 q0 fun vs H1 ⟨F1,Γ1,bs,s1,e1,r1,hn,nd,q1⟩=>?_⟩
 show sp3 K n S (V.ref p::(vs++[])) H1 QQ E0
 rw[List.append_nil]
 have rr:gc K F1 σ (bo::bs) (V.ref p::vs):=⟨_,_,rfl,r0.mono s1,r1⟩
 refine⟨by rw[rr.length];exact hn,F1,_,_,_,e1.args rr nd,mM,q1,fun r Γa q v H' F' e2 rv=>?_⟩
 obtain⟨a,b,c⟩:=e1.called e2 rv
 exact kk v H' ⟨F',_,r,(s0.trans s1).trans a,b,c,q⟩
theorem Gv {pl:Sem Bool} (hK:X.K=K) (he:P3B K X o ta o3) (c:Cls X.K C) (hm:Meth X.K C m f) (F:aM X.prog X.w X.K X.mg X.base CX0 k f fd ps (sp3 K n S)) (hr:bO k X.A) (hb:Binds X.K fd ps []) (ha:oy K X (e::es) t t3)
  (hst:starEach (e::es) X.env=(false,eval e X.env)::starEach es X.env:=by rfl) (hpl:(backTo pos (starEach es X.env)).any (·.1)=false:=by rfl)
  (ht:eval (.Call (.Attribute o m apos) (e::es) [] pos) X.env=(do
   let ov ← eval o X.env
   standAt apos.atName
   let (f,first) ← holding [ov] (getMethod ov m pl)
   callWith pos f first (backTo pos (starEach (e::es) X.env)) (backToKw pos (keywordEach [] X.env))):=by rfl) :
  P3 K X (.Call (.Attribute o m apos) (e::es) [] pos) (qY C m (sp3 K n S) [] E0 ta t) (gZ C m n S o3 t3):=⟨z4 he.pe c hm F hr hb .nil kC ha.pe hst hpl ht,rm he.rf ha.rf⟩
theorem er {pl:Sem Bool} (hK:X.K=K) (he:P3B K X o ta o3) (c:Cls X.K C) (hm:Meth X.K C m f) (F:aM X.prog X.w X.K X.mg X.base CX0 k f fd ps (sp3 K n S)) (hr:bO k X.A) (hb:Binds X.K fd ps [])
  (ht:eval (.Call (.Attribute o m apos) [] [] pos) X.env=(do
   let ov ← eval o X.env
   standAt apos.atName
   let (f,first) ← holding [ov] (getMethod ov m pl)
   callWith pos f first (backTo pos (starEach [] X.env)) (backToKw pos (keywordEach [] X.env))):=by rfl) :
  P3 K X (.Call (.Attribute o m apos) [] [] pos) (qY C m (sp3 K n S) [] E0 ta mR) (gZ C m n S o3 Ah):=⟨xu he.pe c hm F hr hb .nil kC ht,rm he.rf (ae (X:=X)).rf⟩
theorem P3.or {e:Expr} {t t':TE} {a3 b3:TE3} (h:P3 K X e t a3) (h':P3 K X e t' b3):P3 K X e (fun σ H Q=>t σ H Q∨t' σ H Q) (fun Γ Q=>a3 Γ Q∨b3 Γ Q):=
 ⟨fun pins s σ H Q I q=>q.elim (h.pe pins s σ H Q I) (h'.pe pins s σ H Q I),fun B F σ H Γ Q QQ e q k=>q.imp (fun q=>h.rf B F σ H Γ Q QQ e q k) (fun q=>h'.rf B F σ H Γ Q QQ e q k)⟩
theorem jF (M:Mk0 X.K C) (hg:Gl X x) (hm:X.mg x=some (.ref C)) (hdb:(x == ("__debug__":Str))=false:=by decide):P3 K X (.Call (.Name x p) [] [] pos) (ua C) (fun Γ Q=>Q (.fr (.ins C [] [])) Γ):=
 ⟨vH M hg hm hdb,fun B F σ H Γ Q QQ e q k=>fun y dy hy hdy ne=>k _ _ (by
  have e1:=e.alloc hdy (.own y)
  have hy':(upd H dy (.own y)) y=none:=by rw[ah (Ne.symm ne)];exact hy
  exact⟨F,Γ,.fr (.ins C [] []),aG.refl F,e1.alloc hy' _,⟨y,rfl,e1.nof hy',⟨dy,[],au,rfl,rfl⟩,e.dom _ hy,e1.rL hy'⟩,q⟩)⟩
end
end L3
namespace L3
open PySem L2 PySem.Spec
section
variable {K:PySem.W.Frag} {X:Cx} {B:Bs} {F H:Hp} {σ:L2.St} {Γ:G} {pos p:Pos} {x:Str}
theorem lR {n:String} (hg:Gl X x) (hm:X.mg x=none) (hv:bootBuiltins x=some (.type n)) (hn:x≠"__name__":=by decide) (hd:(x == ("__debug__":Str))=false:=by decide):P3 K X (.Name x pos) (tC (.ty n)) (t3C (.ty n)):=
 ⟨z8 (v:=.ty n) hg hm hv rfl hn hd,oO fun _=>rfl⟩
theorem rh (i:Nat) {y:Str} {px p2:Pos} {k e:Expr} {tk te:TE} {k3:TB3} {e3:TE3} (hx:P3B K X (.Name y px) (iQ i) (bor i)) (hk:P3B K X k tk k3) (he:P3 K X e te e3)
  (ha:∀ v,assign (.Subscript (.Name y px) k p2) X.env v=(do
   let ov ← holding [v] (eval (.Name y px) X.env)
   let iv ← holding [v,ov] (eval k X.env)
   standAt p2
   holding [v,ov,iv] (setItem ov iv v)
   release [v,ov,iv] []):=by intro _;rfl)
  (hs:swapsWithSole [.Subscript (.Name y px) k p2] e pos.line X.env=pure false:=by rfl) (hw:swappedStores [.Subscript (.Name y px) k p2] e X.env=pure none:=by rfl)
  (h1:(assignEach [.Subscript (.Name y px) k p2] X.env).map (·.2)=[assign (.Subscript (.Name y px) k p2) X.env]:=by rfl) :
  P3S K X (.Assign [.Subscript (.Name y px) k p2] e pos) (pR te (Au (iQ i) tk ur)) (uf i k3 e3):=zA i hx hk he (CU he.pe (CW hx.pe hk.pe set_list ha) hs hw h1)
theorem En.grow (e:En K B F σ H Γ) {H':Hp} (s:aG H H') (S:Addr) (hS:H S=none):∃ F',aG F F'∧En K B F' σ H' Γ∧F' S=none∧∀ b o,b≠S→H b=none→H' b=some o→F' b=some o:=by
 refine⟨fun b=>if H b=none∧b≠S then H' b else F b,?_,?_,?_,?_⟩
 ·intro b o h
  show (if _ then _ else _)=_
  have:=e.sub b o h
  rw[if_neg (by rw[this];simp)];exact h
 ·refine⟨?_,e.len,?_,?_,e.ow,e.ln,e.dis,e.par,?_,?_,fun b o h n=>s b o (e.rest b o h n),fun b h=>e.dom b (s.free h)⟩
  ·intro b o h
   change (if _ then _ else _)=_ at h
   split at h
   ·exact h
   ·exact s b o (e.sub b o h)
  ·intro i d h
   obtain⟨v,a,b⟩:=e.fz i d h
   refine⟨v,a,b.mono fun b o h=>?_⟩
   show (if _ then _ else _)=_
   have:=e.sub b o h
   rw[if_neg (by rw[this];simp)];exact h
  ·intro i d h
   obtain⟨q,a,b,c⟩:=e.hl i d h
   obtain⟨o,ho⟩:=c.some
   refine⟨q,a,?_,c.mono (fun b o h=>?_) (by rw[ho];exact s _ _ ho)⟩
   ·show (if _ then _ else _)=_
    rw[if_neg (by rw[ho];simp)];exact b
   ·show (if _ then _ else _)=_
    have:=e.sub b o h
    rw[if_neg (by rw[this];simp)];exact h
  ·intro b o h
   have h':=e.keep b o h
   show (if _ then _ else _)=_
   have:=e.sub b o h'
   rw[if_neg (by rw[this];simp)];exact h'
  ·intro b o h
   change (if _ then _ else _)=_ at h
   split at h
   ·rename_i q;exact .inr (e.dom b q.1)
   ·exact e.new b o h
 ·show (if _ then _ else _)=_
  rw[if_neg (by simp)];exact e.nof hS
 ·intro b o n h h'
  show (if _ then _ else _)=_
  rw[if_pos ⟨h,n⟩];exact h'
def lz3 (t3:cq) (Γ:G) (Q:RV→G→Prop):Prop:=t3 Γ fun bs Γ1=>∃ xs ys,ats Γ1 bs=some [.lst xs,.lst ys]∧min xs.length ys.length < sizeLine∧Q (.fr (.lst (Ec xs ys))) Γ1
theorem n8 {ls:List (Option Nat)} {cs:G} (h:ls.all (·.isNone)=true):bK ls Γ cs=Γ:=by
 have hn:∀ j,newD ls cs j=none:=by
  intro j
  cases q:newD ls cs j with
  | none=>rfl
  | some d=>
   obtain⟨k,a,_⟩:=e_ q
   have:=List.all_eq_true.mp h _ (List.mem_of_getElem? a)
   cases this
 refine List.ext_getElem? fun i=>?_
 rw[fh,hn]
 cases q:Γ[i]? with
 | none=>rfl
 | some s=>cases s with
  | none=>rfl
  | some s=>cases s <;> rfl
end
end L3
namespace L3
open PySem L2 PySem.Spec
theorem B9 {α:Type} {a:α} {l:List α}:atI (a::l) 0=some a:=by
 unfold L2.atI ixN;simp
theorem B8 {α:Type} {a b:α} {l:List α}:atI (a::b::l) 1=some b:=by
 have:ixN (a::b::l).length 1=some 1:=by
  unfold ixN;rw[if_pos (by decide),if_pos (by simp;omega)];rfl
 unfold L2.atI;rw[this];rfl
theorem B7 {α:Type} {a b c:α} {l:List α}:atI (a::b::c::l) 2=some c:=by
 have:ixN (a::b::c::l).length 2=some 2:=by
  unfold ixN;rw[if_pos (by decide),if_pos (by simp;omega)];rfl
 unfold L2.atI;rw[this];rfl
theorem B6 {α:Type} {a b c d:α} {l:List α}:atI (a::b::c::d::l) 3=some d:=by
 have:ixN (a::b::c::d::l).length 3=some 3:=by
  unfold ixN;rw[if_pos (by decide),if_pos (by simp;omega)];rfl
 unfold L2.atI;rw[this];rfl
theorem yc:ixN 3 0=some 0:=rfl
theorem yb:ixN 3 1=some 1:=rfl
theorem ya:ixN 3 2=some 2:=rfl
theorem k7 {α:Type} {xs:List α} {k:Int} {d:α} (h:0≤k) (e:xs[k.toNat]?=some d):atI xs k=some d:=by
 obtain⟨j,rfl⟩:∃ j:Nat,k=(j:Int):=⟨k.toNat,by omega⟩
 exact AD (by simpa using e)
theorem Gw {ns:List Int} {k:Int} (h0:0≤k) (h1:k < (ns.length:Int)):atI (ns.map D.int) k=some (.int (ns.getD k.toNat 0)):=by
 refine k7 h0 ?_
 have:k.toNat < ns.length:=by omega
 rw[List.getElem?_map,List.getElem?_eq_getElem this]
 simp [List.getD,this]
theorem AB {ns:List Int} {k:Int} (h0:0≤k) (h1:k < (ns.length:Int)):atI ns k=some (ns.getD k.toNat 0):=by
 refine k7 h0 ?_
 have:k.toNat < ns.length:=by omega
 rw[List.getElem?_eq_getElem this]
 simp [List.getD,this]
theorem AE {α:Type} {xs:List α} {k:Int} (h0:0≤k) (h1:k < (xs.length:Int)):∃ d,atI xs k=some d∧d∈xs:=by
 have:k.toNat < xs.length:=by omega
 exact⟨xs[k.toNat],k7 h0 (List.getElem?_eq_getElem this),List.getElem_mem this⟩
section
variable {K:PySem.W.Frag} {P:Program} {w:World} {mg:Str→Option Value} {base:Heap}
def Bg (n:Nat):S3:=fun Γ Q=>∃ ns:List Int,Γ=[some (.fz (.scr ns))]∧ns.length≤n∧∀ Γ',Q (.fz (.bl true)) Γ'
theorem DA {k n:Nat} {f:Addr} {fd:FuncData} {ps:List Str} (F:aM P w K mg base CX0 k f fd ps (sp3 K 1 (Bg n))) :
  aM P w K mg base CX0 k f fd ps (fun vs H Q _=>∃ (p:Addr) (ns:List Int),vs=[.ref p]∧SqL K H p (ns.map V.int)∧ns.length≤n∧∀ H',Q (.bl true) H'):=by
 refine F.imp fun vs H Q E h=>?_
 obtain⟨p,ns,rfl,hs,hn,q⟩:=h
 have go1:∀ {i:Nat} {s:Sl},([some (Sl.fz (.scr ns))]:G)[i]?=some (some s)→i=0∧s=.fz (.scr ns):=fun {i s} h=>by
  cases i with
  | zero=>cases h;exact⟨rfl,rfl⟩
  | succ i=>cases h
 refine⟨rfl,H,[],[some (.fz (.scr ns))],fun r _=>r=.fz (.bl true),⟨aG.refl H,rfl,?_,?_,?_,?_,?_,?_,aG.refl H,fun b o h=>.inl h,fun b o h _=>h,fun b h=>h⟩,?_,⟨ns,rfl,hn,fun _=>rfl⟩,?_⟩
 ·intro i d h
  obtain⟨rfl,e⟩:=go1 h
  cases e
  exact⟨_,rfl,p,rfl,hs⟩
 ·intro i d h
  rcases h with h | h <;> cases (go1 h).2
 ·intro i d p h
  cases (go1 h).2
 ·intro i d p h
  cases (go1 h).2
 ·intro i j d e p h
  rcases h with h | h <;> cases (go1 h).2
 ·intro i p h;cases h
 ·intro k d h
  cases (go1 h).2
 ·intro r Γ' e v H' F' _ rv
  subst e
  have:v=.bl true:=rv
  subst this
  exact q H'
end
end L3
namespace L3
open PySem L2 PySem.Spec PySem.SeqAt
def b2 (b:Bool):Int:=if b then 1 else 0
mutual
def eqN:Nat→D→D→Option Bool
 | _,.non,.non=>some true
 | _,.bl a,.bl b=>some (a == b)
 | _,.int a,.int b=>some (a == b)
 | _,.str a,.str b=>some (a == b)
 | n + 1,.lst xs,.lst ys=>eW n xs ys
 | n + 1,.tup xs,.tup ys=>eW n xs ys
 | _,_,_=>none
def eW:Nat→List D→List D→Option Bool
 | _,[],[]=>some true
 | n,x::xs,y::ys=>match eqN n x y,eW n xs ys with
  | some a,some b=>some (a && b)
  | _,_=>none
 | _,_,_=>some false
end
section
variable {K:PySem.W.Frag} {F H:Hp}
theorem nS {n:Nat}:∀ {xs ys:List D} {k:Bool},eW n xs ys=some k→xs.length≠ys.length→k=false
 | [],[],_,_,h=>absurd rfl h
 | x::xs,[],_,e,_=>by unfold eW at e;cases e;rfl
 | [],y::ys,_,e,_=>by unfold eW at e;cases e;rfl
 | x::xs,y::ys,k,e,h=>by
  unfold eW at e
  split at e
  ·rename_i a b ha hb
   cases e
   rw[nS hb (by simpa using h),Bool.and_false]
  ·cases e
theorem ju {n:Nat}:∀ {xs ys:List D} {k:Bool},eW n xs ys=some k→∃ e:Nat→Bool,(∀ (j:Nat) x y,xs[j]?=some x→ys[j]?=some y→eqN n x y=some (e j))∧k=((List.range (min xs.length ys.length)).all e && xs.length == ys.length)
 | [],[],k,h=>by unfold eW at h;cases h;exact⟨fun _=>true,fun j x y h=>by simp at h,by simp⟩
 | x::xs,[],k,h=>by unfold eW at h;cases h;exact⟨fun _=>true,fun j x y _ h=>by simp at h,by simp⟩
 | [],y::ys,k,h=>by unfold eW at h;cases h;exact⟨fun _=>true,fun j x y h=>by simp at h,by simp⟩
 | x::xs,y::ys,k,h=>by
  unfold eW at h
  split at h
  ·rename_i a b ha hb
   cases h
   obtain⟨e,h1,h2⟩:=ju hb
   refine⟨fun j=>match j with | 0=>a | j + 1=>e j,fun j x' y' hx hy=>?_,?_⟩
   ·cases j with
    | zero=>simp at hx hy;subst hx hy;exact ha
    | succ j=>exact h1 j x' y' (by simpa using hx) (by simpa using hy)
   ·subst h2
    have hm:min (x::xs).length (y::ys).length=min xs.length ys.length + 1:=by simp [Nat.succ_min_succ]
    rw[hm,List.range_succ_eq_map,List.all_cons,List.all_map]
    simp only[List.length_cons,Function.comp_def,Bool.and_assoc]
    congr 1
    congr 1
    simp
  ·cases h
mutual
theorem qD:∀ {n:Nat} {d d':D} {v:V} {k:Bool},Rep K F d v→Rep K F d' v→eqN n d d'=some k→k=true
 | n,d,d',v,k,h,h',e=>by
  unfold eqN at e
  split at e <;> first
   | (cases e;rfl)
   | (cases e;cases h;cases h';simp;done)
   | (cases e;cases h;cases h';done)
   | (cases e;cases h;obtain⟨_,_,z,_⟩:=h';cases z;done)
   | (cases e;cases h';obtain⟨_,_,z,_⟩:=h;cases z;done)
   | (obtain⟨p,vs,rfl,a,b⟩:=h;obtain⟨p',vs',q,a',b'⟩:=h';cases q;rw[a] at a';cases a';exact o8 b b' e)
   | (obtain⟨p,vs,rfl,a,b⟩:=h;obtain⟨p',vs',q,a',b'⟩:=h';cases q;rw[a] at a';cases a';done)
   | (cases e;done)
theorem o8:∀ {n:Nat} {xs ys:List D} {vs:List V} {k:Bool},aA K F xs vs→aA K F ys vs→eW n xs ys=some k→k=true
 | n,[],[],_,k,_,_,e=>by unfold eW at e;cases e;rfl
 | n,x::xs,[],_,k,⟨v,ws,h1,_⟩,h',e=>by cases h';cases h1
 | n,[],y::ys,_,k,h,⟨v,ws,h1,_⟩,e=>by cases h;cases h1
 | n,x::xs,y::ys,_,k,⟨v,ws,h1,h2,h3⟩,⟨v',ws',h1',h2',h3'⟩,e=>by
  subst h1
  cases h1'
  unfold eW at e
  split at e
  ·rename_i a b ha hb
   cases e
   rw[qD h2 h2' ha,o8 h3 h3' hb];rfl
  ·cases e
end
end
end L3
namespace L3
open PySem L2 PySem.Spec PySem.SeqAt
section
variable {K:PySem.W.Frag} {X:Cx} {F H:Hp} {pins:List (Addr×Obj)} {σ:L2.St} {s:Shared}
theorem Vals.at' {xs:List V} {us:List Value} (r:Vals xs us) {j:Nat} (h:j < us.toArray.size):∃ v,xs[j]?=some v∧RelV v (us.toArray[j]):=by
 have h1:j < xs.length:=by rw[r.length];simpa using h
 obtain⟨u,hu,ru⟩:=r.get (List.getElem?_eq_getElem h1)
 refine⟨_,List.getElem?_eq_getElem h1,?_⟩
 have:us.toArray[j]=u:=by
  have h2:j < us.length:=by simpa using h
  have h3:us[j]?=some us[j]:=List.getElem?_eq_getElem h2
  rw[hu] at h3;cases h3
  simp
 rw[this];exact ru
theorem nH (I:Inv X pins σ H s) {p:Addr} {vs:List V} (h:H p=some (.lst vs)):∃ its:List Value,Vals vs its∧s.heap.IsList p its.toArray:=by
 obtain⟨its,n,r,e,_⟩:=I.lst h
 exact⟨its,r,_,e,rfl,n,rfl⟩
theorem ki (I:Inv X pins σ H s) {p:Addr} {vs:List V} (h:H p=some (.tup vs)):∃ its:List Value,Vals vs its∧s.heap.IsTuple p its.toArray:=by
 obtain⟨its,r,⟨o,e,hc,n,d⟩,_⟩:=I.tuple (a:=p) (xs:=vs) (.inl (.inl h))
 exact⟨its,r,o,e,hc,n,d⟩
theorem qE {n:Nat} {A:Around} {xs ys:List D} {vs ws:List V} {us zs:List Value} {e:Nat→Bool} (ih:∀ {d d':D} {v v':V} {u u':Value} {k:Bool},Rep K F d v→Rep K F d' v'→RelV v u→RelV v' u'→eqN n d d'=some k→EqAt A s u u' k)
  (r1:aA K F xs vs) (r2:aA K F ys ws) (q1:Vals vs us) (q2:Vals ws zs) (he:∀ (j:Nat) x y,xs[j]?=some x→ys[j]?=some y→eqN n x y=some (e j)) :
  ∀ j (h1:j < us.toArray.size) (h2:j < zs.toArray.size),EqAt A s us.toArray[j] zs.toArray[j] (e j):=fun j h1 h2=>by
 obtain⟨v,hv,rv⟩:=Vals.at' q1 h1
 obtain⟨w,hw,rw'⟩:=Vals.at' q2 h2
 obtain⟨d,hd,rd⟩:=r1.yu hv
 obtain⟨d',hd',rd'⟩:=r2.yu hw
 exact ih rd rd' rv rw' (he j d d' hd hd')
theorem rC {n:Nat} {A:Around} {p q:Addr} {xs ys:List D} {vs ws:List V} {k:Bool} (I:Inv X pins σ H s) (ih:∀ {d d':D} {v v':V} {u u':Value} {k:Bool},Rep K F d v→Rep K F d' v'→RelV v u→RelV v' u'→eqN n d d'=some k→EqAt A.in1 s u u' k)
  (h1:H p=some (.lst vs)) (h2:H q=some (.lst ws)) (r1:aA K F xs vs) (r2:aA K F ys ws) (he:eW n xs ys=some k) (hu:A.units < cLine):RcAt A s (.ref p) (.ref q) k:=by
 obtain⟨us,q1,l1⟩:=nH I h1
 obtain⟨zs,q2,l2⟩:=nH I h2
 have n1:us.toArray.size=xs.length:=by rw[← r1.length,q1.length];simp
 have n2:zs.toArray.size=ys.length:=by rw[← r2.length,q2.length];simp
 by_cases hl:xs.length=ys.length
 ·obtain⟨e,g,rfl⟩:=ju he
  have:=RcAt.lists l1 l2 (by rw[n1,n2,hl]) hu (qE ih r1 r2 q1 q2 g)
  rw[n1] at this
  rw[hl,Nat.min_self,beq_self_eq_true,Bool.and_true]
  rw[hl] at this
  exact this
 ·rw[nS he hl]
  refine RcAt.lists_lengths l1 l2 ?_ hu
  rw[n1,n2,bne_iff_ne];exact hl
theorem oP {n:Nat} {A:Around} {p q:Addr} {xs ys:List D} {vs ws:List V} {k:Bool} (I:Inv X pins σ H s) (ih:∀ {d d':D} {v v':V} {u u':Value} {k:Bool},Rep K F d v→Rep K F d' v'→RelV v u→RelV v' u'→eqN n d d'=some k→EqAt A.in1 s u u' k)
  (h1:H p=some (.tup vs)) (h2:H q=some (.tup ws)) (r1:aA K F xs vs) (r2:aA K F ys ws) (he:eW n xs ys=some k) (hu:A.units < cLine):RcAt A s (.ref p) (.ref q) k:=by
 obtain⟨us,q1,l1⟩:=ki I h1
 obtain⟨zs,q2,l2⟩:=ki I h2
 have n1:us.toArray.size=xs.length:=by rw[← r1.length,q1.length];simp
 have n2:zs.toArray.size=ys.length:=by rw[← r2.length,q2.length];simp
 obtain⟨e,g,rfl⟩:=ju he
 have:=RcAt.tuples l1 l2 hu (qE ih r1 r2 q1 q2 g)
 rw[n1,n2] at this
 exact this
theorem nR (I:Inv X pins σ H s) (sm:aG F H):∀ (n:Nat) {A:Around} {d d':D} {v v':V} {u u':Value} {k:Bool},A.units + n < cLine→Rep K F d v→Rep K F d' v'→RelV v u→RelV v' u'→eqN n d d'=some k→EqAt A s u u' k:=by
 intro n
 induction n with
 | zero=>
  intro A d d' v v' u u' k hu r r' q q' e
  unfold eqN at e
  split at e <;> (try (cases e;done)) <;> (try (rename_i hn;cases hn;done)) <;> cases r <;> cases r'
  ·cases e;cases q;cases q';exact EqAt.same _
  ·cases e;cases q;cases q';exact .bool_bool _ _
  ·cases e;obtain⟨t,rfl⟩:=q;obtain⟨t',rfl⟩:=q';exact .int_int _ _ _ _
  ·cases e;obtain⟨t,rfl⟩:=q;obtain⟨t',rfl⟩:=q';exact .str_str _ _ _ _
 | succ n ih=>
  intro A d d' v v' u u' k hu r r' q q' e
  have hu0:A.units < cLine:=by omega
  have hu1:A.in1.units + n < cLine:=by show A.units + 1 + n < cLine;omega
  have e0:=e
  unfold eqN at e
  split at e
  ·cases r;cases r';cases e;cases q;cases q';exact EqAt.same _
  ·cases r;cases r';cases e;cases q;cases q';exact .bool_bool _ _
  ·cases r;cases r';cases e;obtain⟨t,rfl⟩:=q;obtain⟨t',rfl⟩:=q';exact .int_int _ _ _ _
  ·cases r;cases r';cases e;obtain⟨t,rfl⟩:=q;obtain⟨t',rfl⟩:=q';exact .str_str _ _ _ _
  ·
   rename_i n' xs ys hn;cases hn
   have r0:=r;have r0':=r'
   obtain⟨p,vs,rfl,a1,b1⟩:=r
   obtain⟨p',vs',rfl,a2,b2⟩:=r'
   cases q;cases q'
   by_cases z:p=p'
   ·subst z
    rw[qD r0 r0' e0]
    exact EqAt.same _
   ·exact .of_refs z (rC I (fun r r' q q' e=>ih hu1 r r' q q' e) (sm _ _ a1) (sm _ _ a2) b1 b2 e hu0)
  ·
   rename_i n' xs ys hn;cases hn
   have r0:=r;have r0':=r'
   obtain⟨p,vs,rfl,a1,b1⟩:=r
   obtain⟨p',vs',rfl,a2,b2⟩:=r'
   cases q;cases q'
   by_cases z:p=p'
   ·subst z
    rw[qD r0 r0' e0]
    exact EqAt.same _
   ·exact .of_refs z (oP I (fun r r' q q' e=>ih hu1 r r' q q' e) (sm _ _ a1) (sm _ _ a2) b1 b2 e hu0)
  ·cases e
def xg (K:PySem.W.Frag) (n:Nat) (neg:Bool):R2:=fun x y H Q=>∃ F d d' k,aG F H∧gf K F H d x∧gf K F H d' y∧eqN (n + 1) d d'=some k∧Q (.bl (neg ^^ k)) H
theorem EE (I:Inv X pins σ H s) (sm:aG F H) (n:Nat) {A:Around} {d d':D} {v v':V} {u u':Value} {k:Bool} (hu:A.units + n + 1 < cLine) (r:gf K F H d v) (r':gf K F H d' v') (q:RelV v u) (q':RelV v' u') (e:eqN (n + 1) d d'=some k):RcAt A s u u' k:=by
 have hu0:A.units < cLine:=by omega
 have hu1:A.in1.units + n < cLine:=by show A.units + 1 + n < cLine;omega
 unfold eqN at e
 split at e
 ·cases r;cases r';cases e;cases q;cases q';exact .none_none
 ·cases r;cases r';cases e;cases q;cases q';exact .bool_bool _ _
 ·cases r;cases r';cases e;obtain⟨t,rfl⟩:=q;obtain⟨t',rfl⟩:=q';exact .int_int _ _ _ _
 ·cases r;cases r';cases e;obtain⟨t,rfl⟩:=q;obtain⟨t',rfl⟩:=q';exact .str_str _ _ _ _
 ·rename_i n' xs ys hn;cases hn
  obtain⟨p,vs,rfl,a1,b1⟩:=r
  obtain⟨p',vs',rfl,a2,b2⟩:=r'
  cases q;cases q'
  exact rC I (fun r r' q q' e=>nR I sm _ hu1 r r' q q' e) a1 a2 b1 b2 e hu0
 ·rename_i n' xs ys hn;cases hn
  obtain⟨p,vs,rfl,a1,b1⟩:=r
  obtain⟨p',vs',rfl,a2,b2⟩:=r'
  cases q;cases q'
  exact oP I (fun r r' q q' e=>nR I sm _ hu1 r r' q q' e) (sm _ _ a1) (sm _ _ a2) b1 b2 e hu0
 ·cases e
theorem Dq (hK:X.K=K) {n:Nat} (hu:X.A.units + n + 1 < cLine):OpR X (compareOp .Eq) (xg K n false):=by
 intro pins s σ H x y v u Q I rx ry h
 obtain⟨F,d,d',k,sm,r,r',e,q⟩:=h
 refine EE I sm n hu r r' rx ry e _ _ _ _ (nL I q (by simp))
def yO (n:Nat) (neg:Bool) (x y:D) (Γ:G) (Q:RV→G→Prop):Prop:=∃ k,eqN (n + 1) x y=some k∧Q (.fz (.bl (neg ^^ k))) Γ
theorem yN {n:Nat} {neg:Bool}:j6 K (xg K n neg) (yO n neg):=by
 intro B F σ H Γ x y dx dy Q QQ e rx ry q k
 obtain⟨b,hb,q⟩:=q
 exact⟨F,dx,dy,b,e.sub,rx,ry,hb,k _ _ (iC e q)⟩
theorem kq (hK:X.K=K) {k:Nat} (hr:bO k X.A):C3 K X .Eq (xg K 20 false) (yO 20 false):=⟨Dq hK (by have:=hr.un;omega),yN⟩
end
end L3
namespace L3
open PySem L2 PySem.Spec PySem.SeqAt
section
variable {K:PySem.W.Frag} {X:Cx} {F H:Hp} {pins:List (Addr×Obj)} {σ:L2.St} {s:Shared}
theorem w4 {n:Nat} {A:Around} {p q:Addr} {xs ys:List D} {vs ws:List V} {k:Bool} (I:Inv X pins σ H s) (ih:∀ {d d':D} {v v':V} {u u':Value} {k:Bool},Rep K F d v→Rep K F d' v'→RelV v u→RelV v' u'→eqN n d d'=some k→EqAt A.in1 s u u' k)
  (h1:H p=some (.lst vs)) (h2:H q=some (.lst ws)) (r1:aA K F xs vs) (r2:aA K F ys ws) (he:eW n xs ys=some k) (hu:A.units < cLine):RcNeAt A s (.ref p) (.ref q) (!k):=by
 obtain⟨us,q1,l1⟩:=nH I h1
 obtain⟨zs,q2,l2⟩:=nH I h2
 have n1:us.toArray.size=xs.length:=by rw[← r1.length,q1.length];simp
 have n2:zs.toArray.size=ys.length:=by rw[← r2.length,q2.length];simp
 by_cases hl:xs.length=ys.length
 ·obtain⟨e,g,rfl⟩:=ju he
  have:=RcNeAt.lists l1 l2 (by rw[n1,n2,hl]) hu (qE ih r1 r2 q1 q2 g)
  rw[n1] at this
  rw[hl,Nat.min_self,beq_self_eq_true,Bool.and_true]
  rw[hl] at this
  exact this
 ·rw[nS he hl]
  refine RcNeAt.lists_lengths l1 l2 ?_ hu
  rw[n1,n2,bne_iff_ne];exact hl
theorem vz {n:Nat} {A:Around} {p q:Addr} {xs ys:List D} {vs ws:List V} {k:Bool} (I:Inv X pins σ H s) (ih:∀ {d d':D} {v v':V} {u u':Value} {k:Bool},Rep K F d v→Rep K F d' v'→RelV v u→RelV v' u'→eqN n d d'=some k→EqAt A.in1 s u u' k)
  (h1:H p=some (.tup vs)) (h2:H q=some (.tup ws)) (r1:aA K F xs vs) (r2:aA K F ys ws) (he:eW n xs ys=some k) (hu:A.units < cLine):RcNeAt A s (.ref p) (.ref q) (!k):=by
 obtain⟨us,q1,l1⟩:=ki I h1
 obtain⟨zs,q2,l2⟩:=ki I h2
 have n1:us.toArray.size=xs.length:=by rw[← r1.length,q1.length];simp
 have n2:zs.toArray.size=ys.length:=by rw[← r2.length,q2.length];simp
 obtain⟨e,g,rfl⟩:=ju he
 have:=RcNeAt.tuples l1 l2 hu (qE ih r1 r2 q1 q2 g)
 rw[n1,n2] at this
 exact this
theorem EA (I:Inv X pins σ H s) (sm:aG F H) (n:Nat) {A:Around} {d d':D} {v v':V} {u u':Value} {k:Bool} (hu:A.units + n + 1 < cLine) (r:gf K F H d v) (r':gf K F H d' v') (q:RelV v u) (q':RelV v' u') (e:eqN (n + 1) d d'=some k):RcNeAt A s u u' (!k):=by
 have hu0:A.units < cLine:=by omega
 have hu1:A.in1.units + n < cLine:=by show A.units + 1 + n < cLine;omega
 unfold eqN at e
 split at e
 ·cases r;cases r';cases e;cases q;cases q';exact .none_none
 ·cases r;cases r';cases e;cases q;cases q';exact .bool_bool _ _
 ·cases r;cases r';cases e;obtain⟨t,rfl⟩:=q;obtain⟨t',rfl⟩:=q';exact .int_int _ _ _ _
 ·cases r;cases r';cases e;obtain⟨t,rfl⟩:=q;obtain⟨t',rfl⟩:=q';exact .str_str _ _ _ _
 ·rename_i n' xs ys hn;cases hn
  obtain⟨p,vs,rfl,a1,b1⟩:=r
  obtain⟨p',vs',rfl,a2,b2⟩:=r'
  cases q;cases q'
  exact w4 I (fun r r' q q' e=>nR I sm _ hu1 r r' q q' e) a1 a2 b1 b2 e hu0
 ·rename_i n' xs ys hn;cases hn
  obtain⟨p,vs,rfl,a1,b1⟩:=r
  obtain⟨p',vs',rfl,a2,b2⟩:=r'
  cases q;cases q'
  exact vz I (fun r r' q q' e=>nR I sm _ hu1 r r' q q' e) (sm _ _ a1) (sm _ _ a2) b1 b2 e hu0
 ·cases e
theorem Dk (hK:X.K=K) {n:Nat} (hu:X.A.units + n + 1 < cLine):OpR X (compareOp .NotEq) (xg K n true):=by
 intro pins s σ H x y v u Q I rx ry h
 obtain⟨F,d,d',k,sm,r,r',e,q⟩:=h
 refine EA I sm n hu r r' rx ry e _ _ _ _ (nL I q (by simp))
theorem qN (hK:X.K=K) {k:Nat} (hr:bO k X.A):C3 K X .NotEq (xg K 20 true) (yO 20 true):=⟨Dk hK (by have:=hr.un;omega),yN⟩
theorem o9 {n:Nat}:∀ (xs ys:List Int),eW n (xs.map .int) (ys.map .int)=some (decide (xs=ys))
 | [],[]=>by simp [eW]
 | x::xs,[]=>by simp [eW]
 | [],y::ys=>by simp [eW]
 | x::xs,y::ys=>by
  simp only[List.map_cons,eW,o9 xs ys,eqN]
  congr 1
  rw[Bool.eq_iff_iff]
  simp
theorem nQ {n:Nat} (xs ys:List Int):eqN (n + 1) (.lst (xs.map .int)) (.lst (ys.map .int))=some (decide (xs=ys)):=by
 unfold eqN;exact o9 xs ys
end
end L3
namespace L2
open PySem PySem.Spec PyProof.Rows
structure Acc (Y:Cx) (D:Addr) (pl:List (Addr×Obj)) (ys:List V) (σ:St) (H:Hp) (s:Shared):Prop where
 us:∃ us,Inv Y ((D,bu us us.length)::pl) σ H s∧Vals ys us
 exD:D∈Y.ex
 nd:∀ p∈Y.pn++pl,p.1≠D
abbrev TB:=List V→St→Hp→(List V→St→Hp→Prop)→Prop
def PB (Y:Cx) (D:Addr) (m:Sem Fin→Sem Fin) (t:TB):Prop:=
 ∀ (k:Sem Fin) (pl:List (Addr×Obj)) (s:Shared) (ys:List V) (σ:St) (H:Hp) (Q:List V→St→Hp→Prop) (R:Fin→Shared→Prop),Acc Y D pl ys σ H s→t ys σ H Q→
  (∀ ys' σ' H' s',Acc Y D pl ys' σ' H' s'→Q ys' σ' H'→wpAny (model Y.prog Y.w) Y.A k R (fun _ _=>False) s')→wpAny (model Y.prog Y.w) Y.A (m k) R (fun _ _=>False) s
section
variable {Y:Cx} {D:Addr}
def sy (te:TE):TB:=fun ys σ H Q=>ys.length < sizeLine∧te σ H fun y H'=>Q (ys++[y]) σ H'
abbrev uW (elt:Expr) (D:Addr) (env:Env) (k:Sem Fin):Sem Fin:=(eval elt env >>= fun x=>call (.builtin "list.append") [.ref D,x] >>= fun _=>pure ()) >>= fun _=>k
theorem Acc.pins {pl:List (Addr×Obj)} {ys:List V} {σ σ':St} {H H':Hp} {s s':Shared} {us:List Value} (a:Acc Y D pl ys σ H s) (I:Inv Y ((D,bu us us.length)::pl) σ' H' s') (r:Vals ys us):Acc Y D pl ys σ' H' s':=⟨⟨us,I,r⟩,a.exD,a.nd⟩
theorem uv {elt:Expr} {te:TE} (hx:Y.xe=fun _ _=>False) (he:PE Y elt te):PB Y D (uW elt D Y.env) (sy te):=by
 intro k pl s ys σ H Q R a ⟨hz,q⟩ hk
 obtain⟨us,I,rv⟩:=a.us
 have he':=he _ s σ H _ I q
 rw[hx] at he'
 refine wpAny_bind (wpAny_bind (thn he' fun y s7 ⟨yv,H7,I7,r7,q7⟩=>wpAny_bind ?_))
 obtain⟨pD,pH,pL,pF,pc⟩:=I7.pin (D,bu us us.length) (List.mem_append_right _ List.mem_cons_self)
 have hlen:us.length=ys.length:=rv.length.symm
 refine append_at (hsz:=by rw[List.size_toArray,hlen];exact Nat.le_of_lt hz) pD fun h8 sb8 hD8=>wpAny_pure ?_
 have I7n:Inv Y pl σ H7 s7:=I7.gp fun p z=>I7.pin p (List.mem_append_right _ (List.mem_cons_of_mem _ z))
 have I8:Inv Y pl σ H7 { s7 with heap:=h8 }:=I7n.turned (t':=s7.toks) (it:=D) (fun b o hb e=>(sb8.2 b hb).trans e) pH pL (.inl a.exD) (fun x c e=>(I7.ok.exf D a.exD).2 x c e) a.nd
 have e8:h8.get? D=some (bu (us++[y]) (us++[y]).length):=by
  rw[hD8]
  simp
 refine hk (ys++[yv]) σ H7 _ ⟨⟨us++[y],I8.gp fun p z=>?_,rv.append (.cons r7 .nil)⟩,a.exD,a.nd⟩ q7
 rcases List.mem_cons.mp z with e | z
 ·subst e;exact⟨e8,pH,pL,pF,fun v z=>by cases z⟩
 ·exact I8.pin p (List.mem_append_right _ z)
def bIf (tc:TT) (t:TB):TB:=fun ys σ H Q=>tc σ H fun b H'=>if b=true then t ys σ H' Q else Q ys σ H'
abbrev ifK (c:Expr) (env:Env) (m:Sem Fin→Sem Fin) (k:Sem Fin):Sem Fin:=(forIn [c] true fun c r=>if r=true then do let ok ← isTrue c env (eval c env);pure (ForInStep.yield ok) else pure (ForInStep.yield r)) >>= fun ok=>if ok=true then m k else k
theorem EU {c:Expr} {tc:TT} {m:Sem Fin→Sem Fin} {t:TB} (hx:Y.xe=fun _ _=>False) (hc:PT Y c tc) (hm:PB Y D m t):PB Y D (ifK c Y.env m) (bIf tc t):=by
 intro k pl s ys σ H Q R a q hk
 obtain⟨us,I,rv⟩:=a.us
 have hc':=hc _ s σ H _ I q
 rw[hx] at hc'
 refine wpAny_bind (wpAny_tests_one (thn hc' fun b s1 ⟨H1,I1,q1⟩=>?_))
 cases b with
 | true=>exact hm k pl s1 ys σ H1 Q R (a.pins I1 rv) (by simpa using q1) hk
 | false=>exact hk ys σ H1 s1 (a.pins I1 rv) (by simpa using q1)
def sx (J:It) (g:TG) (t:TB):TB:=fun ys σ H Q=>∃ W:Nat→Nat→List V→St→Hp→Prop,(∃ m,W 0 m ys σ H)∧∀ i m ys σ H,W i m ys σ H→
 (J.stop i H∧Q ys σ H)∨(J.go i H∧∀ x H',J.yld i H x H'→g x σ H' fun σ2 H2=>t ys σ2 H2 fun ys' σ' H''=>∃ m',m' < m∧W (i + 1) m' ys' σ' H'')
theorem Be {elt:Expr} {gens:List Comprehension} {sc:Scope} {pos p0:Pos} {d:Nat} {tg:Expr} {it:Addr} {fp:List Addr} {tn:Nat→Heap→Prop} {J:It} {g:TG} {m:Sem Fin→Sem Fin} {t:TB}
  (hx:Y.xe=fun _ _=>False) (hc:Y.calm=true) (T:Turn Y.prog Y.w Y.K tg J fp it tn) (hg:PG Y tg g) (hm:PB Y D m t)
  (hturn:compTurn (.ListComp elt gens sc pos) d (.ref it) (.ref D) Y.env=(standAt p0 >>= fun _=>pyNext (.ref it) >>= fun r=>match r with
   | none=>pure (.done .next)
   | some v=>letOwnedTupleGo tg (.ref it) v >>= fun _=>assign tg Y.env v >>= fun _=>m (again (.compLoop (.ListComp elt gens sc pos) d (.ref it) (.ref D) Y.env))))
  {pl:List (Addr×Obj)} {ys:List V} {σ:St} {H:Hp} {s:Shared} {Q:List V→St→Hp→Prop} {R:Result→Shared→Prop} (a:Acc Y D pl ys σ H s) (st:tn 0 s.heap) (f:∀ b∈fp,e9 Y pl H b∧D≠b) (q:sx J g t ys σ H Q)
  (hR:∀ ys' σ' H' s',Acc Y D pl ys' σ' H' s'→Q ys' σ' H'→R (.ok .next) s'):codeAny (model Y.prog Y.w) Y.A (.compLoop (.ListComp elt gens sc pos) d (.ref it) (.ref D) Y.env) R s:=by
 obtain⟨W,⟨m0,w0⟩,turn⟩:=q
 have stat:∀ {H':Hp} {o:Obj},(∀ b∈fp,H' b=none)→∀ b∈fp,e9 Y ((D,o)::pl) H' b:=fun hn b hb=>by
  obtain⟨⟨_,f1,f2,f3,f4,f5⟩,f6⟩:=f b hb
  refine⟨hn b hb,f1,f2,f3,f4,fun p hp=>?_⟩
  rcases List.mem_append.mp hp with hp | hp
  ·exact f5 p (List.mem_append_left _ hp)
  ·rcases List.mem_cons.mp hp with e | hp
   ·subst e;exact f6
   ·exact f5 p (List.mem_append_right _ hp)
 refine codeAny_loop rfl (fun n s'=>∃ i ys' σ' H',Acc Y D pl ys' σ' H' s'∧tn i s'.heap∧(∀ b∈fp,H' b=none)∧W i n ys' σ' H') (fun n s3 hI=>?_) m0 ⟨0,ys,σ,H,a,st,fun b hb=>(f b hb).1.1,w0⟩
 show wpAny _ _ ((compTurn (.ListComp elt gens sc pos) d (.ref it) (.ref D) Y.env).onRaise (fun x=>do noteFrame x Y.env;theTreesLotGoes x)) _ _ s3
 refine wpAny_noted ?_
 rw[hturn]
 obtain⟨i,ys3,σ3,H3,a3,st3,fr3,w3⟩:=hI
 obtain⟨us3,I3,rv3⟩:=a3.us
 have noE:∀ {M:Model} {A:Around} {α:Type} {t:Sem α} {Q:α→Shared→Prop} {E:Value→Shared→Prop} {s:Shared},wpAny M A t Q (fun _ _=>False) s→wpAny M A t Q E s:=fun h=>wpAny_mono h (fun _ _ x=>x) fun _ _ x=>x.elim
 refine wpAny_bind (wpAny_standAt (wpAny_bind ?_))
 rcases turn i n ys3 σ3 H3 w3 with ⟨stop,qn⟩ | ⟨go,step⟩
 ·refine noE (thn (T.done Y rfl rfl rfl hc i _ s3 σ3 H3 _ I3 (stat fr3) st3 stop) fun r s4 ⟨hr,I4⟩=>?_)
  subst hr
  exact wpAny_pure (hR ys3 σ3 H3 s4 (a3.pins I4 rv3) qn)
 ·refine noE (thn (T.item Y rfl rfl rfl hc i _ s3 σ3 H3 _ I3 (stat fr3) st3 go) fun r s4 ⟨u,hr,h4⟩=>?_)
  subst hr
  refine wpAny_bind (noE (thn h4 fun _ s5 ⟨x,H5,I5,r5,y5,st5,fr5⟩=>?_))
  have I5':=I5.pinned (stat fr5) (T.obj _ _ st5)
  have hg':=hg _ s5 σ3 H5 x u _ I5' r5 (step x H5 y5)
  rw[hx] at hg'
  refine wpAny_bind (noE (thn hg' fun _ s6 ⟨σ6,H6,I6,q6⟩=>?_))
  have a6:Acc Y D (pl++m_ fp s5.heap) ys3 σ6 H6 s6:=⟨⟨us3,I6,rv3⟩,a.exD,fun p hp=>by
   rcases List.mem_append.mp hp with hp | hp
   ·exact a.nd p (List.mem_append_left _ hp)
   ·rcases List.mem_append.mp hp with hp | hp
    ·exact a.nd p (List.mem_append_right _ hp)
    ·exact fun z=>(f p.1 (oU hp).1).2 z.symm⟩
  refine noE (hm _ _ s6 ys3 σ6 H6 _ _ a6 q6 fun ys7 σ7 H7 s7 a7 ⟨m',hlt,w7⟩=>wpAny_pure ⟨rfl,m',hlt,i + 1,ys7,σ7,H7,?_,?_,?_,w7⟩)
  ·obtain⟨us7,I7,rv7⟩:=a7.us
   exact⟨⟨us7,I7.gp fun p hp=>I7.pin p (List.mem_append_right _ (by
    rcases List.mem_cons.mp hp with e | hp
    ·subst e;exact List.mem_cons_self
    ·exact List.mem_cons_of_mem _ (List.mem_append_left _ hp))),rv7⟩,a.exD,a.nd⟩
  ·obtain⟨us7,I7,rv7⟩:=a7.us
   exact T.keep _ _ _ st5 fun b hb o e=>(I7.pin (b,o) (List.mem_append_right _ (List.mem_cons_of_mem _ (List.mem_append_right _ (dR hb e))))).1
  ·intro b hb
   obtain⟨us7,I7,rv7⟩:=a7.us
   obtain⟨o,e,d⟩:=T.obj _ _ st5 b hb
   exact(I7.pin (b,o) (List.mem_append_right _ (List.mem_cons_of_mem _ (List.mem_append_right _ (dR hb e))))).2.1
end
end L2
namespace L2
open PySem PySem.Spec PyProof.Rows
theorem kZ {prog:Program} {w:World} {A:Around} {R:Result→Shared→Prop} {s:Shared} {elt:Expr} {gens:List Comprehension} {sc:Scope} {pos:Pos} {d:Nat} {it acc:Value} {env:Env} {tg iter:Expr} {ifs:List Expr} (hcl:gens[d]?=some ⟨tg,iter,ifs,0⟩)
  (same:codeAny (model prog w) A (.compLoop (.ListComp elt gens sc pos) d it acc env) R s)
  (anew:wpAny (model prog w) A (pyIter it) (fun it2 s2=>codeAny (model prog w) A (.compLoop (.ListComp elt gens sc pos) d it2 acc env) R s2) (notedBy (model prog w) A env fun x s2=>R (.error x) s2) s) :
  codeAny (model prog w) A (.compStart (.ListComp elt gens sc pos) d it acc env) R s:=by
 have cl:(clausesOf (.ListComp elt gens sc pos))[d]?=some ⟨tg,iter,ifs,0⟩:=hcl
 apply codeAny_of_tree
 apply wpAny_notedAt (pos:=theWindowsPlace) (m:=compStart (.ListComp elt gens sc pos) d it acc env)
 simp only[compStart,cl]
 apply wpAny_bind
 apply wpAny_askSetting
 apply wpAny_ite
 split
 ·exact wpAny_pure ⟨rfl,same⟩
 ·apply wpAny_bind
  apply wpAny_rule
  apply wpAny_bind
  apply wpAny_standAt
  exact wpAny_bind (wpAny_mono anew (fun _ _ q=>wpAny_pure ⟨rfl,q⟩) fun _ _ q=>q)
section
variable {Y:Cx} {D:Addr}
def zf (wi:TI) (g:TG) (t:TB):TB:=fun ys σ H Q=>wi σ H fun J H1=>sx J g t ys σ H1 Q
abbrev A4 (elt:Expr) (gens:List Comprehension) (sc:Scope) (pos:Pos) (d:Nat) (iter:Expr) (D:Addr) (env:Env) (k:Sem Fin):Sem Fin:=
 eval iter env >>= fun x=>standAt iter.pos >>= fun _=>foldedSetIterable iter env x >>= fun x=>holding [x] (pyIter x) >>= fun itv=>runOwn (.compStart (.ListComp elt gens sc pos) d itv (.ref D) env) env >>= fun _=>k
theorem z9 {elt:Expr} {gens:List Comprehension} {sc:Scope} {pos p0:Pos} {d:Nat} {tg iter:Expr} {ifs:List Expr} {wi:TI} {g:TG} {m:Sem Fin→Sem Fin} {t:TB} (hx:Y.xe=fun _ _=>False) (hc:Y.calm=true) (hcl:gens[d]?=some ⟨tg,iter,ifs,0⟩)
  (hi:PI Y tg iter wi) (hg:PG Y tg g) (hm:PB Y D m t)
  (hturn:∀ it,compTurn (.ListComp elt gens sc pos) d (.ref it) (.ref D) Y.env=(standAt p0 >>= fun _=>pyNext (.ref it) >>= fun r=>match r with
   | none=>pure (.done .next)
   | some v=>letOwnedTupleGo tg (.ref it) v >>= fun _=>assign tg Y.env v >>= fun _=>m (again (.compLoop (.ListComp elt gens sc pos) d (.ref it) (.ref D) Y.env))))
  (hs:∀ x,foldedSetIterable iter Y.env x=pure x:=by intro _;rfl):PB Y D (A4 elt gens sc pos d iter D Y.env) (zf wi g t):=by
 intro k pl s ys σ H Q R a q hk
 obtain⟨us,I,rv⟩:=a.us
 have hi':=hi _ s σ H _ I q
 rw[hx] at hi'
 refine wpAny_bind (thn hi' fun v s1 h1=>wpAny_bind (wpAny_standAt (wpAny_bind ?_)))
 rw[hs]
 refine wpAny_pure (wpAny_bind (wpAny_holding (thn h1 fun itv s2 h2=>?_)))
 obtain⟨it,fp,tn,J,H2,e,I2,T,st2,f2,cw⟩:=h2
 subst e
 have a2:=a.pins I2 rv
 refine wpAny_bind (wpAny_runOwn ?_)
 have lp:∀ {R:Result→Shared→Prop},(∀ ys' σ' H' s',Acc Y D pl ys' σ' H' s'→Q ys' σ' H'→R (.ok .next) s')→codeAny (model Y.prog Y.w) Y.A (.compLoop (.ListComp elt gens sc pos) d (.ref it) (.ref D) Y.env) R s2:=fun hR=>
  Be hx hc T hg hm (hturn it) a2 st2 (fun b hb=>by
   obtain⟨f0,f1,f3,f4,f5,f6⟩:=f2 b hb
   exact⟨⟨f0,f1,f3,f4,f5,fun p hp=>f6 p (by
    rcases List.mem_append.mp hp with hp | hp
    ·exact List.mem_append_left _ hp
    ·exact List.mem_append_right _ (List.mem_cons_of_mem _ hp))⟩,f6 (D,_) (List.mem_append_right _ List.mem_cons_self)⟩) cw hR
 have fin:=lp (R:=fun r s'=>match r with | .ok f=>wpAny (model Y.prog Y.w) Y.A k R (fun _ _=>False) s' | .error e=>False) fun ys' σ' H' s' a' q'=>hk ys' σ' H' s' a' q'
 have fin2:codeAny (model Y.prog Y.w) Y.A (.compLoop (.ListComp elt gens sc pos) d (.ref it) (.ref D) Y.env) (fun r s'=>match r with | .ok f=>wpAny (model Y.prog Y.w) Y.A k R (fun _ _=>False) s' | .error e=>cameBackBy (model Y.prog Y.w) Y.A Y.env (fun _ _=>False) e s') s2:=
  codeAny_mono fin fun r s' h=>by cases r with | ok f=>exact h | error e=>exact h.elim
 exact kZ hcl fin2 (wpAny_mono (T.self Y.A 0 _ _ (fun _ _=>False) st2 fin2) (fun _ _ h=>h) fun _ _ h=>h.elim)
end
end L2
namespace L2
open PySem PySem.Spec PyProof.Rows
section
variable {X:Cx}
theorem sd {elt iter tg:Expr} {gens:List Comprehension} {ifs:List Expr} {sc:Scope} {pos p0:Pos} {Nc:List Str} {fr:List (Option Nat)} {g:TG} {m:Addr→Env→Sem Fin→Sem Fin} {t:TB} (hcl:gens[0]?=some ⟨tg,iter,ifs,0⟩) (B:Blk X.N X.env.scope sc Nc fr) (hc:X.calm=true)
  (hg:∀ s₀ H₀ C ex pn,PG (a_ X sc Nc s₀ H₀ C ex pn) tg g) (hm:∀ s₀ H₀ C ex pn D,PB (a_ X sc Nc s₀ H₀ C ex pn) D (m D (a_ X sc Nc s₀ H₀ C ex pn).env) t)
  (hturn:∀ (it D:Addr) (env:Env),compTurn (.ListComp elt gens sc pos) 0 (.ref it) (.ref D) env=(standAt p0 >>= fun _=>pyNext (.ref it) >>= fun r=>match r with
   | none=>pure (.done .next)
   | some v=>letOwnedTupleGo tg (.ref it) v >>= fun _=>assign tg env v >>= fun _=>m D env (again (.compLoop (.ListComp elt gens sc pos) 0 (.ref it) (.ref D) env))))
  {pins:List (Addr×Obj)} {σ:St} {s2:Shared} {H2:Hp} {it:Addr} {fp:List Addr} {tn:Nat→Heap→Prop} {J:It} (I2:Inv X pins σ H2 s2) (T:Turn X.prog X.w X.K tg J fp it tn) (st2:tn 0 s2.heap) (f2:∀ b∈fp,e9 X pins H2 b)
  {Q:VK} (cw:sx J g t [] (jw fr σ) H2 fun ys _ H'=>ys.length < sizeLine∧∀ l,H' l=none→Q (.ref l) (upd H' l (.lst ys))) {RR:Value→Addr→Result→Shared→Prop} {E:Value→Shared→Prop}
  (hRR:∀ D C s' H',Inv X pins σ H' s'→(∃ m,s'.heap.Ns C m)→e9 X pins H' C→Q (.ref D) H'→RR (.ref D) C (.ok .next) s') :
  wpAny (model X.prog X.w) X.A (newList []) (fun acc s₃=>wpAny (model X.prog X.w) X.A (newFunctionEnv sc X.env.globals (takes X.env.cells sc.names []) [] X.env.qual none .none (some X.env)) (fun cenv s₄=>
   codeAny (model X.prog X.w) X.A (.compStart (.ListComp elt gens sc pos) 0 (.ref it) acc { cenv with scope:=relabel sc X.env }) (RR acc cenv.locals) s₄) E s₃) E s2:=by
 refine wpAny_newObj_type (oW fun h₁ hns₁ old₁ cl₁=>?_)
 dsimp only at hns₁ old₁ cl₁ ⊢
 generalize hH2:s2.heap.push { cls:=.type "list",dict:=none,data:=.seq ([]:List Value).toArray }=hp at hns₁ old₁ cl₁ ⊢
 have hCs:hp.objs.size=s2.heap.objs.size + 1:=by rw[← hH2,Heap.size_push]
 generalize hCe:hp.objs.size=C at hns₁ cl₁ ⊢
 generalize hDe:s2.heap.objs.size=D at hCs ⊢
 have hDC:D≠C:=by rw[← hCe,hCs];exact Nat.ne_of_lt (Nat.lt_succ_self _)
 have up:∀ b o,s2.heap.get? b=some o→hp.get? b=some o:=fun b o e=>by rw[← hH2];exact Heap.get?_push_of_some _ e
 have hDp:hp.get? D=some (bu [] 0):=by rw[← hH2,← hDe];exact Heap.get?_push_size _ rfl
 have I3:Inv X pins σ H2 { s2 with heap:=hp }:=I2.kept (t':=s2.toks) up
 have hD0:H2 D=none:=I2.hok.fresh (by rw[hDe];exact Nat.le_refl _)
 have fD:e9 X pins H2 D:=I2.rW (by rw[hDe];exact Nat.le_refl _) hD0
 have fpo:∀ b∈fp,∃ o,s2.heap.get? b=some o∧∀ v,o.data≠.cell v:=T.obj 0 _ st2
 have fplt:∀ b∈fp,b < D:=fun b hb=>by obtain⟨o,e,_⟩:=fpo b hb;rw[← hDe];exact Heap.lt_size e
 have hDfp:D∉fp:=fun hb=>Nat.lt_irrefl _ (fplt D hb)
 have hCfp:C∉fp:=fun hb=>by have:=fplt C hb;rw[← hCe,hCs] at this;exact absurd (Nat.lt_of_succ_lt this) (Nat.lt_irrefl _)
 have nobase:∀ b,(b∈X.ex∨X.s₀.heap.objs.size≤b)→∀ o,X.base.get? b≠some o:=fun b h o e=>by
  rcases h with h | h
  ·exact I2.ok.noex b o e h
  ·exact absurd (Nat.lt_of_lt_of_le (Heap.lt_size e) (Nat.le_trans I2.ok.bsz h)) (Nat.lt_irrefl _)
 have hex:∀ b∈D::fp,b < hp.objs.size∧b∉X.fs∧b≠X.env.locals∧(∀ x c,X.env.cells.lookup x=some c→c≠b)∧∀ o,X.base.get? b≠some o:=fun b hb=>by
  have fb:e9 X pins H2 b:=by
   rcases List.mem_cons.mp hb with e | hb
   ·rw[e];exact fD
   ·exact f2 b hb
  refine⟨?_,fb.2.2.1,fb.2.1,fb.2.2.2.2.1,nobase b fb.2.2.2.1⟩
  rcases List.mem_cons.mp hb with e | hb
  ·rw[e,hCs];exact Nat.lt_succ_self _
  ·rw[hCs];exact Nat.lt_succ_of_lt (fplt b hb)
 have hCle:hp.objs.size≤C:=by rw[hCe];exact Nat.le_refl _
 have ok:(a_ X sc Nc { s2 with heap:=hp } H2 C (D::fp) (X.pn++pins)).Ok:=zb B I3 hCle hex
 have old:∀ b u,hp.get? b=some u→h₁.get? b=some u:=old₁
 have J0:Inv (a_ X sc Nc { s2 with heap:=hp } H2 C (D::fp) (X.pn++pins)) [(D,bu [] 0)] (jw fr σ) H2 { s2 with heap:=h₁ }:=
  vg B ok I3 hCle rfl rfl old hns₁ cl₁ hDp hD0 fD.2.1 fD.2.2.1 (fun v z=>by cases z)
 have a0:Acc (a_ X sc Nc { s2 with heap:=hp } H2 C (D::fp) (X.pn++pins)) D [] [] (jw fr σ) H2 { s2 with heap:=h₁ }:=
  ⟨⟨[],J0,.nil⟩,List.mem_cons_self,fun p hp'=>fD.2.2.2.2.2 p (by simpa using hp')⟩
 have fpY:∀ b∈fp,e9 (a_ X sc Nc { s2 with heap:=hp } H2 C (D::fp) (X.pn++pins)) [] H2 b∧D≠b:=fun b hb=>
  ⟨⟨(f2 b hb).1,fun e=>hCfp (by have e':b=C:=e;rw[← e'];exact hb),ok.exfs b (List.mem_cons_of_mem _ hb),.inl (List.mem_cons_of_mem _ hb),(ok.exf b (List.mem_cons_of_mem _ hb)).2,fun p hp'=>(f2 b hb).2.2.2.2.2 p (by simpa using hp')⟩,fun z=>hDfp (by rw[z];exact hb)⟩
 have loop:codeAny (model X.prog X.w) X.A (.compLoop (.ListComp elt gens sc pos) 0 (.ref it) (.ref D) (compEnvC sc (bcl X.env.cells sc C) C X.env)) (RR (.ref D) C) { s2 with heap:=h₁ }:=by
  refine Be (Y:=a_ X sc Nc { s2 with heap:=hp } H2 C (D::fp) (X.pn++pins)) (D:=D) rfl hc T (hg _ _ _ _ _) (hm _ _ _ _ _ D) (hturn it D _) a0 (T.keep _ _ _ st2 (fun b _ o e=>old b o (up b o e))) fpY cw fun ys σ4 H3 s4 a4 hq=>?_
  obtain⟨us,I4,rv⟩:=a4.us
  obtain⟨hsz,qn⟩:=hq
  obtain⟨pD,pH,_,_,_⟩:=I4.pin (D,bu us us.length) (List.mem_append_right _ List.mem_cons_self)
  obtain⟨mC',hnC,_⟩:=I4.loc
  have un:Un (frs X.stack) fp H2 (upd H3 D (.lst ys)) s2.heap s4.heap:=by
   have u0:Un (frs X.stack) (D::fp) H2 H3 hp s4.heap:=I4.base
   have neD:∀ {b:Addr} {o:Obj},s2.heap.get? b=some o→b≠D:=fun e=>by rw[← hDe];exact Nat.ne_of_lt (Heap.lt_size e)
   have nx:∀ {b:Addr} {o:Obj},s2.heap.get? b=some o→b∉fp→b∉D::fp:=fun e h1 h2=>by
    rcases List.mem_cons.mp h2 with z | z
    ·exact neD e z
    ·exact h1 z
   have neT:∀ {b:Addr} {o:HO},H2 b=some o→b≠D:=fun e z=>by rw[z,hD0] at e;cases e
   exact⟨fun b o e n hb hx=>u0.keep b o (up b o e) n hb (nx e hx),fun b o e n hb hx=>u0.slot b o (up b o e) n hb (nx e hx),fun b o e n hx=>by rw[ah (neD e)];exact u0.free b o (up b o e) n (nx e hx),
    fun b o e hx=>u0.there b o (up b o e) (nx e hx),fun b xs e=>by rw[ah (neT e)];exact u0.tups b xs e,fun b o xs e=>by rw[ah (neT e)];exact u0.frzs b o xs e,fun b ps e=>by rw[ah (neT e)];exact u0.tbls b ps e⟩
  have hok:HOk X.prog X.w (upd H3 D (.lst ys)) s4.heap:=fun b u e=>by
   by_cases hb:b=D
   ·subst hb
    rw[au] at e
    cases e
    exact⟨Nat.le_of_lt hsz,us,us.length,rv,pD⟩
   ·rw[ah hb] at e
    refine(I4.hok b u e).j8 (fun c v _ q=>q) (fun c q=>?_) fun c xs q=>?_
    ·rw[ah (fun z=>by rw[z] at q;rw[show H3 D=none from pH] at q;cases q)];exact q
    ·rw[ah (fun z=>by rw[z] at q;rw[show H3 D=none from pH] at q;cases q)];exact q
  have I5:Inv X pins σ (upd H3 D (.lst ys)) s4:=I2.vb I4.os un hok I4.bare fun b hb=>⟨(f2 b hb).2.2.2.1,(f2 b hb).2.1,(f2 b hb).2.2.2.2.1,(f2 b hb).2.2.2.2.2⟩
  refine hRR D C s4 _ I5 ⟨mC',hnC⟩ ?_ (qn D pH)
  have hC2:s2.heap.objs.size≤C:=by rw[hDe,← hCe,hCs];exact Nat.le_succ _
  refine I2.rW hC2 ?_
  rw[ah (Ne.symm hDC)]
  exact I4.free
 exact kZ hcl loop (wpAny_mono (T.self X.A 0 _ _ (fun _ _=>False) (T.keep _ _ _ st2 (fun b _ o e=>old b o (up b o e))) loop) (fun _ _ h=>h) fun _ _ h=>h.elim)
def pP (fr:List (Option Nat)) (wi:TI) (g:TG) (t:TB):TE:=fun σ H Q=>wi σ H fun J H1=>sx J g t [] (jw fr σ) H1 fun ys _ H'=>ys.length < sizeLine∧∀ l,H' l=none→Q (.ref l) (upd H' l (.lst ys))
theorem rF {elt iter tg:Expr} {ifs:List Expr} {rest:List Comprehension} {sc:Scope} {pos p0:Pos} {Nc:List Str} {fr:List (Option Nat)} {wi:TI} {g:TG} {m:Addr→Env→Sem Fin→Sem Fin} {t:TB} (hc:X.calm=true) (hi:PI X tg iter wi) (B:Blk X.N X.env.scope sc Nc fr)
  (hg:∀ s₀ H₀ C ex pn,PG (a_ X sc Nc s₀ H₀ C ex pn) tg g) (hm:∀ s₀ H₀ C ex pn D,PB (a_ X sc Nc s₀ H₀ C ex pn) D (m D (a_ X sc Nc s₀ H₀ C ex pn).env) t)
  (hturn:∀ (it D:Addr) (env:Env),compTurn (.ListComp elt (⟨tg,iter,ifs,0⟩::rest) sc pos) 0 (.ref it) (.ref D) env=(standAt p0 >>= fun _=>pyNext (.ref it) >>= fun r=>match r with
   | none=>pure (.done .next)
   | some v=>letOwnedTupleGo tg (.ref it) v >>= fun _=>assign tg env v >>= fun _=>m D env (again (.compLoop (.ListComp elt (⟨tg,iter,ifs,0⟩::rest) sc pos) 0 (.ref it) (.ref D) env)))) (hs:∀ x,foldedSetIterable iter X.env x=pure x:=by intro _;rfl) :
  PE X (.ListComp elt (⟨tg,iter,ifs,0⟩::rest) sc pos) (pP fr wi g t):=by
 intro pins s σ H Q I h
 rw[eval_ListComp]
 refine wpAny_comprehension_free (use:=none) rfl hs (qI B I) B.kind B.locs (thn (hi pins s σ H _ I h) fun v s1 h1=>thn h1 fun itv s2 h2=>?_)
 obtain⟨it,fp,tn,J,H2,e,I2,T,st2,f2,cw⟩:=h2
 subst e
 refine sd (RR:=fun acc C=>compPost (model X.prog X.w) X.A X.xe none (EP X pins σ Q) acc C) rfl B hc hg hm hturn I2 T st2 f2 cw fun D C s' H' I' hn fC q=>?_
 obtain⟨m,hn⟩:=hn
 exact⟨m,hn,fun h' sb=>⟨.ref D,H',I'.turned (t':=s'.toks) (fun b o hb e=>(sb.2 b hb).trans e) fC.1 fC.2.1 fC.2.2.2.1 fC.2.2.2.2.1 fC.2.2.2.2.2,rfl,q⟩⟩
end
end L2
namespace L3
open PySem L2 PySem.Spec
abbrev jQ:=List D→G→(List D→G→Prop)→Prop
def PoL (K:PySem.W.Frag) (B:Bs) (F:Hp) (Q:List D→G→Prop):List V→L2.St→Hp→Prop:=fun ys' σ' H'=>∃ F' Γ' ds',aG F F'∧En K B F' σ' H' Γ'∧aA K F' ds' ys'∧Q ds' Γ'
def mi (K:PySem.W.Frag) (t:TB) (b3:jQ):Prop:=∀ (B:Bs) (F:Hp) (σ:L2.St) (H:Hp) (Γ:G) (ys:List V) (ds:List D) (Q:List D→G→Prop) (QQ:List V→L2.St→Hp→Prop),En K B F σ H Γ→aA K F ds ys→b3 ds Γ Q→(∀ ys' σ' H',PoL K B F Q ys' σ' H'→QQ ys' σ' H')→t ys σ H QQ
structure D_ (K:PySem.W.Frag) (Y:Cx) (D:Addr) (m:Sem Fin→Sem Fin) (t:TB) (b3:jQ):Prop where
 pe:PB Y D m t
 rf:mi K t b3
def pb (e3:TE3) (ys:List D) (Γ:G) (Q:List D→G→Prop):Prop:=ys.length < sizeLine∧e3 Γ fun r Γ1=>Q (ys++[r.d]) Γ1
def zd (c3:TT3) (b3:jQ) (ys:List D) (Γ:G) (Q:List D→G→Prop):Prop:=c3 Γ fun b Γ1=>match b with
 | true=>b3 ys Γ1 Q
 | false=>Q ys Γ1
def uH (xs:List D) (g3:TG3) (b3:jQ) (ys:List D) (Γ:G) (Q:List D→G→Prop):Prop:=∃ Iv:Nat→List D→G→Prop,Iv 0 ys Γ∧(∀ k d ys Γ,xs[k]?=some d→Iv k ys Γ→g3 d Γ fun Γ'=>b3 ys Γ' (Iv (k + 1)))∧∀ ys Γ,Iv xs.length ys Γ→Q ys Γ
def um (i3:TI3) (g3:TG3) (b3:jQ) (ys:List D) (Γ:G) (Q:List D→G→Prop):Prop:=i3 Γ fun xs Γ1=>uH xs g3 b3 ys Γ1 Q
def nW (fr:List (Option Nat)) (i3:TI3) (g3:TG3) (b3:jQ) (Γ:G) (Q:RV→G→Prop):Prop:=i3 Γ fun xs Γ1=>uH xs g3 b3 [] (eK Γ1 (eY fr)) fun ys Γc=>ys.length < sizeLine∧Q (.fr (.lst ys)) (bK fr Γ1 Γc)
section
variable {K:PySem.W.Frag} {X Y:Cx} {Da:Addr} {pos p0:Pos}
theorem m9 {te:TE} {e3:TE3} (h:Ref K te e3):mi K (sy te) (pb e3):=by
 intro B F σ H Γ ys ds Q QQ e r ⟨hz,q⟩ k
 refine⟨by rw[r.length];exact hz,h B F σ H Γ _ _ e q fun v H' ⟨F',Γ',rv,s,e',rr,q'⟩=>k _ _ _ ?_⟩
 obtain⟨F2,s2,e2,r2⟩:=e'.frozen rr
 exact⟨F2,Γ',ds++[rv.d],s.trans s2,e2,aA.append (ys:=[rv.d]) (r.mono (s.trans s2)) ⟨v,[],rfl,r2,rfl⟩,q'⟩
theorem uq {tc:TT} {c3:TT3} {t:TB} {b3:jQ} (hc:mD K tc c3) (h:mi K t b3):mi K (bIf tc t) (zd c3 b3):=by
 intro B F σ H Γ ys ds Q QQ e r q k
 refine hc B F σ H Γ _ _ e q fun b H' ⟨F',Γ',s,e',q'⟩=>?_
 cases b with
 | true=>exact vU (h B F' σ H' Γ' ys ds Q QQ e' (r.mono s) q' fun ys' σ' H2 ⟨F2,Γ2,d2,s2,rest⟩=>k _ _ _ ⟨F2,Γ2,d2,s.trans s2,rest⟩)
 | false=>exact vV (k _ _ _ ⟨F',Γ',ds,s,e',r.mono s,q'⟩)
theorem rn {J:It} {xs:List D} {g:TG} {g3:TG3} {t:TB} {b3:jQ} (hg:zl K g g3) (h:mi K t b3) {B:Bs} {F:Hp} {σ:L2.St} {H:Hp} {Γ:G} {ys:List V} {ds:List D} {Q:List D→G→Prop} {QQ:List V→L2.St→Hp→Prop}
  (R:ItR K F J xs) (e:En K B F σ H Γ) (r:aA K F ds ys) (q:uH xs g3 b3 ds Γ Q) (k:∀ ys' σ' H',PoL K B F Q ys' σ' H'→QQ ys' σ' H'):sx J g t ys σ H QQ:=by
 obtain⟨Iv,i0,it,ie⟩:=q
 refine⟨fun i m ys σ H=>m=xs.length - i∧i≤xs.length∧∃ F' Γ' ds,aG F F'∧En K B F' σ H Γ'∧aA K F' ds ys∧Iv i ds Γ',⟨_,rfl,Nat.zero_le _,F,Γ,ds,aG.refl F,e,r,i0⟩,?_⟩
 rintro i m ys2 σ2 H2 ⟨rfl,hi,F2,Γ2,ds2,s2,e2,r2,iv⟩
 by_cases lt:i < xs.length
 ·refine .inr ⟨R.go i H2 (s2.trans e2.sub) lt,fun x H3 y=>?_⟩
  have hd:xs[i]?=some xs[i]:=List.getElem?_eq_getElem lt
  obtain⟨F3,s3,e3,r3⟩:=R.turn s2 e2 hd y
  refine hg B F3 σ2 H3 Γ2 x _ _ _ e3 r3 (it i _ ds2 Γ2 hd iv) fun σ' Γ' e4 q4=>?_
  exact h B F3 σ' H3 Γ' ys2 ds2 _ _ e4 (r2.mono s3) q4 fun ys' σ'' H4 ⟨F4,Γ4,d4,s4,e5,r5,iv5⟩=>⟨xs.length - (i + 1),by omega,rfl,lt,F4,Γ4,d4,(s2.trans s3).trans s4,e5,r5,iv5⟩
 ·have z:i=xs.length:=by omega
  subst z
  exact .inl ⟨R.stop _ H2 (s2.trans e2.sub) rfl,k _ _ _ ⟨F2,Γ2,ds2,s2,e2,r2,ie ds2 Γ2 iv⟩⟩
theorem xa {wi:TI} {i3:TI3} {g:TG} {g3:TG3} {t:TB} {b3:jQ} (hi:AK K wi i3) (hg:zl K g g3) (h:mi K t b3):mi K (zf wi g t) (um i3 g3 b3):=by
 intro B F σ H Γ ys ds Q QQ e r q k
 refine hi B F σ H Γ _ _ e q fun J H1 F1 Γ1 xs s1 e1 R q1=>?_
 exact rn hg h R e1 (r.mono s1) q1 fun ys' σ' H2 ⟨F2,Γ2,d2,s2,rest⟩=>k _ _ _ ⟨F2,Γ2,d2,s1.trans s2,rest⟩
theorem oK {fr:List (Option Nat)} {wi:TI} {i3:TI3} {g:TG} {g3:TG3} {t:TB} {b3:jQ} (nd:(fr.filterMap id).Nodup) (hi:AK K wi i3) (hg:zl K g g3) (h:mi K t b3):Ref K (pP fr wi g t) (nW fr i3 g3 b3):=by
 intro B F σ H Γ Q QQ e q k
 refine hi B F σ H Γ _ _ e q fun J H1 F1 Γ1 xs s1 e1 R q1=>?_
 refine rn hg h R (e1.blk nd) (ds:=[]) rfl q1 fun ys σ' H2 ⟨F2,Γ2,d2,s2,e2,r2,hz,q2⟩=>⟨by rw[r2.length];exact hz,fun l hl'=>k _ _ ?_⟩
 have eo:En K B F2 σ H2 (bK fr Γ1 Γ2):=e1.back (ls:=fr) e2 (by have:=nq (Γ:=Γ1) (σ:=σ) (bs:=eY fr);rw[rR] at this;exact this)
 exact Po.mono (s1.trans s2) (jE eo hl' r2 q2)
theorem Az {elt:Expr} {te:TE} {e3:TE3} (hx:Y.xe=fun _ _=>False) (he:P3 K Y elt te e3):D_ K Y Da (uW elt Da Y.env) (sy te) (pb e3):=⟨uv hx he.pe,m9 he.rf⟩
theorem FU {c:Expr} {tc:TT} {c3:TT3} {m:Sem Fin→Sem Fin} {t:TB} {b3:jQ} (hx:Y.xe=fun _ _=>False) (hc:P3T K Y c tc c3) (hm:D_ K Y Da m t b3):D_ K Y Da (ifK c Y.env m) (bIf tc t) (zd c3 b3):=⟨EU hx hc.pe hm.pe,uq hc.rf hm.rf⟩
theorem nk {elt iter tg c:Expr} {sc:Scope} {Nc:List Str} {fr:List (Option Nat)} {wi:TI} {i3:TI3} {g:TG} {g3:TG3} {te:TE} {e3:TE3} {tc:TT} {c3:TT3} (hc:X.calm=true) (hi:P3I K X tg iter wi i3) (Bk:Blk X.N X.env.scope sc Nc fr)
  (hg:∀ s₀ H₀ C ex pn,P3G K (a_ X sc Nc s₀ H₀ C ex pn) tg g g3) (ht:∀ s₀ H₀ C ex pn,P3T K (a_ X sc Nc s₀ H₀ C ex pn) c tc c3) (he:∀ s₀ H₀ C ex pn,P3 K (a_ X sc Nc s₀ H₀ C ex pn) elt te e3) (nd:(fr.filterMap id).Nodup:=by decide) (hs:∀ x,foldedSetIterable iter X.env x=pure x:=by intro _;rfl) :
  P3 K X (.ListComp elt [⟨tg,iter,[c],0⟩] sc pos) (pP fr wi g (bIf tc (sy te))) (nW fr i3 g3 (zd c3 (pb e3))):=
 ⟨rF (m:=fun D env=>ifK c env (uW elt D env)) hc hi.pe Bk (fun a b c d e=>(hg a b c d e).pe) (fun a b c d e D=>(FU rfl (ht a b c d e) (Az rfl (he a b c d e))).pe) (fun _ _ _=>rfl) hs,oK nd hi.rf (hg X.s₀ X.H₀ 0 [] []).rf (uq (ht X.s₀ X.H₀ 0 [] []).rf (m9 (he X.s₀ X.H₀ 0 [] []).rf))⟩
theorem rG {elt i0 t0 i1 t1:Expr} {sc:Scope} {Nc:List Str} {fr:List (Option Nat)} {wi:TI} {i3:TI3} {g:TG} {g3:TG3} {wi1:TI} {j3:TI3} {g1:TG} {h3:TG3} {te:TE} {e3:TE3} (hc:X.calm=true) (hi:P3I K X t0 i0 wi i3) (Bk:Blk X.N X.env.scope sc Nc fr)
  (hg:∀ s₀ H₀ C ex pn,P3G K (a_ X sc Nc s₀ H₀ C ex pn) t0 g g3) (hj:∀ s₀ H₀ C ex pn,P3I K (a_ X sc Nc s₀ H₀ C ex pn) t1 i1 wi1 j3) (hh:∀ s₀ H₀ C ex pn,P3G K (a_ X sc Nc s₀ H₀ C ex pn) t1 g1 h3)
  (he:∀ s₀ H₀ C ex pn,P3 K (a_ X sc Nc s₀ H₀ C ex pn) elt te e3) (hs1:∀ s₀ H₀ C ex pn x,foldedSetIterable i1 (a_ X sc Nc s₀ H₀ C ex pn).env x=pure x:=by intros;rfl) (nd:(fr.filterMap id).Nodup:=by decide) (hs:∀ x,foldedSetIterable i0 X.env x=pure x:=by intro _;rfl) :
  P3 K X (.ListComp elt [⟨t0,i0,[],0⟩,⟨t1,i1,[],0⟩] sc pos) (pP fr wi g (zf wi1 g1 (sy te))) (nW fr i3 g3 (um j3 h3 (pb e3))):=
 ⟨rF (m:=fun D env=>A4 elt [⟨t0,i0,[],0⟩,⟨t1,i1,[],0⟩] sc pos 1 i1 D env) hc hi.pe Bk (fun a b c d e=>(hg a b c d e).pe)
  (fun a b c d e D=>z9 (m:=uW elt D _) rfl hc (by rfl) (hj a b c d e).pe (hh a b c d e).pe (uv rfl (he a b c d e).pe) (fun _=>rfl) (hs1 a b c d e)) (fun _ _ _=>rfl) hs,
  oK nd hi.rf (hg X.s₀ X.H₀ 0 [] []).rf (xa (hj X.s₀ X.H₀ 0 [] []).rf (hh X.s₀ X.H₀ 0 [] []).rf (m9 (he X.s₀ X.H₀ 0 [] []).rf))⟩
end
end L3
namespace L3
open PySem L2 PySem.Spec
theorem yM {n:Nat} {a b:Int}:eqN n (.int a) (.int b)=some (a == b):=by cases n <;> rfl
theorem BX {n:Nat} {a b:Str}:eqN n (.str a) (.str b)=some (a == b):=by cases n <;> rfl
theorem BY {n:Nat} {a b:Bool}:eqN n (.bl a) (.bl b)=some (a == b):=by cases n <;> rfl
def fo (s:Option D):Option Sl:=s.map Sl.fz
theorem yA {s:Option Sl} {Γ:G} {i:Nat}:bM (s::Γ) (i + 1)=bM Γ i:=rfl
theorem yC {Γ:G}:bM (none::Γ) 0=True:=rfl
theorem yx {d:D} {Γ:G}:bM (some (.fz d)::Γ) 0=True:=rfl
theorem yy {d:D} {Γ:G}:bM (some (.ow d)::Γ) 0=True:=rfl
theorem yB {s:Option D} {Γ:G}:bM (fo s::Γ) 0=True:=by cases s <;> rfl
end L3
universe u
namespace L3
open PySem L2 PySem.Spec
structure Tag {α:Sort u} (q:α):Type where
def m1 (o:Option D) (k:D→Prop) (_:Tag k):Prop:=match o with
 | some d=>k d
 | none=>False
theorem uF {d:D} {k:D→Prop} {t:Tag k}:m1 (some d) k t=k d:=rfl
theorem bL {o:Option D} {k:D→Prop} {t:Tag k}:m1 o k t↔∃ d,o=some d∧k d:=by
 cases o with
 | none=>exact⟨fun h=>h.elim,fun ⟨_,h,_⟩=>by cases h⟩
 | some d=>exact⟨fun h=>⟨d,rfl,h⟩,fun ⟨_,h,q⟩=>by cases h;exact q⟩
def B2 (fr:List (Option Nat)) (i3:TI3) (g3:TG3) (e3:TE3) (Γ:G) (Q:RV→G→Prop) (_:Tag (fr,i3,g3,e3)) (_:Tag Q):Prop:=sf fr i3 g3 e3 Γ Q
def DQ (i3:TI3) (g3:TG3) (b3:TS3) (D:E3) (Γ:G) (_:Tag (i3,g3,b3)) (_:Tag D):Prop:=DR i3 g3 b3 D Γ
def yV (fr:List (Option Nat)) (i3:TI3) (g3:TG3) (b3:jQ) (Γ:G) (Q:RV→G→Prop) (_:Tag (fr,i3,g3,b3)) (_:Tag Q):Prop:=nW fr i3 g3 b3 Γ Q
theorem se {fr:List (Option Nat)} {i3:TI3} {g3:TG3} {b3:jQ} {Γ:G} {Q:RV→G→Prop}:nW fr i3 g3 b3 Γ Q=yV fr i3 g3 b3 Γ Q ⟨⟩ ⟨⟩:=rfl
theorem u5 {fr:List (Option Nat)} {i3:TI3} {g3:TG3} {e3:TE3} {Γ:G} {Q:RV→G→Prop}:sf fr i3 g3 e3 Γ Q=B2 fr i3 g3 e3 Γ Q ⟨⟩ ⟨⟩:=rfl
theorem yD {i3:TI3} {g3:TG3} {b3:TS3} {D:E3} {Γ:G}:DR i3 g3 b3 D Γ=DQ i3 g3 b3 D Γ ⟨⟩ ⟨⟩:=rfl
section
variable {op:D→D→TE3} {a3 b3:TB3} {Γ:G} {Q:RV→G→Prop}
theorem wO:kz op a3 b3 Γ Q=(a3 Γ fun x Γ1=>b3 Γ1 fun y Γ2=>m1 (x.at Γ2) (fun dx=>m1 (y.at Γ2) (fun dy=>op dx dy Γ2 Q) ⟨⟩) ⟨⟩):=by
 unfold kz
 congr;funext x Γ1;congr;funext y Γ2
 refine propext ⟨fun ⟨dx,dy,h1,h2,h3⟩=>by rw[h1,h2];exact h3,fun h=>?_⟩
 obtain⟨dx,h1,h⟩:=bL.mp h
 obtain⟨dy,h2,h⟩:=bL.mp h
 exact⟨dx,dy,h1,h2,h⟩
theorem wN {op:D→TE3}:vp op a3 Γ Q=(a3 Γ fun x Γ1=>m1 (x.at Γ1) (fun dx=>op dx Γ1 Q) ⟨⟩):=by
 unfold vp
 congr;funext x Γ1
 exact propext bL.symm
theorem Bj {xs:List D} {i:Int}:ix3 (.lst xs) (.int i) Γ Q=m1 (atI xs i) (fun d=>Q (.fz d) Γ) ⟨⟩:=propext bL.symm
theorem Bi {xs:List D} {i:Int}:ix3 (.tup xs) (.int i) Γ Q=m1 (atI xs i) (fun d=>Q (.fz d) Γ) ⟨⟩:=propext bL.symm
def mL (o:Option (List D)) (k:List D→Prop) (_:Tag k):Prop:=match o with
 | some d=>k d
 | none=>False
theorem uD {d:List D} {k:List D→Prop} {t:Tag k}:mL (some d) k t=k d:=rfl
theorem u_ {c3:List D→TE3} {t3:cq}:va c3 t3 Γ Q=(t3 Γ fun bs Γ1=>mL (ats Γ1 bs) (fun ds=>c3 ds Γ1 Q) ⟨⟩):=by
 unfold va
 congr;funext bs Γ1
 refine propext ⟨fun ⟨ds,h,q⟩=>by rw[h];exact q,fun h=>?_⟩
 cases e:ats Γ1 bs with
 | none=>rw[e] at h;exact h.elim
 | some ds=>rw[e] at h;exact⟨ds,rfl,h⟩
def mN (o:Option Nat) (k:Nat→Prop) (_:Tag k):Prop:=match o with
 | some d=>k d
 | none=>False
theorem uC {d:Nat} {k:Nat→Prop} {t:Tag k}:mN (some d) k t=k d:=rfl
def mI (o:Option D) (k:Int→Prop) (_:Tag k):Prop:=match o with
 | some (.int d)=>k d
 | _=>False
theorem uE {d:Int} {k:Int→Prop} {t:Tag k}:mI (some (.int d)) k t=k d:=rfl
theorem ue {i:Nat} {k3:TB3} {e3:TE3} {D:E3}:uf i k3 e3 D Γ=(e3 Γ fun r Γ1=>(∃ xs,cj Γ1 i=some xs)∧k3 Γ1 fun b Γ2=>mL (cj Γ2 i) (fun xs=>mI (b.at Γ2) (fun k=>mN (ixN xs.length k) (fun j=>D.nx (putD Γ2 i (.lst (xs.set j r.d)))) ⟨⟩) ⟨⟩) ⟨⟩):=by
 unfold uf
 congr;funext r Γ1;congr;funext b Γ2
 refine propext ⟨fun ⟨xs,k,j,h1,h2,h3,q⟩=>?_,fun h=>?_⟩
 ·rw[h1,h2];show mN (ixN xs.length k) _ ⟨⟩;rw[h3];exact q
 ·cases e:cj Γ2 i with
  | none=>rw[e] at h;exact h.elim
  | some xs=>
   rw[e] at h
   replace h:mI (b.at Γ2) (fun k=>mN (ixN xs.length k) (fun j=>D.nx (putD Γ2 i (.lst (xs.set j r.d)))) ⟨⟩) ⟨⟩:=h
   cases e2:b.at Γ2 with
   | none=>rw[e2] at h;exact h.elim
   | some d=>
    rw[e2] at h
    cases d with
    | int k=>
     replace h:mN (ixN xs.length k) (fun j=>D.nx (putD Γ2 i (.lst (xs.set j r.d)))) ⟨⟩:=h
     cases e3:ixN xs.length k with
     | none=>rw[e3] at h;exact h.elim
     | some j=>rw[e3] at h;exact⟨xs,k,j,rfl,rfl,e3,h⟩
    | _=>exact h.elim
end
end L3
namespace L3
open PySem L2
section
variable {K:PySem.W.Frag} {B:Bs} {F:Hp} {σ:L2.St} {H:Hp} {Γ:G}
end
end L3
namespace L3
open PySem L2
section
variable {K:PySem.W.Frag} {B:Bs} {F:Hp} {σ:L2.St} {H:Hp} {Γ:G}
def uL (Γ:G) (i:Nat):Option (Addr×List Str×List D):=match Γ[i]? with
 | some (some (.ow (.ins C ns xs)))=>some (C,ns,xs)
 | some (some (.ln (.ins C ns xs)))=>some (C,ns,xs)
 | _=>none
def oI (o:Option (Addr×List Str×List D)) (k:Addr→List Str→List D→Prop):Prop:=match o with
 | some (C,ns,xs)=>k C ns xs
 | none=>False
def Ew (C0:Addr) (i:Nat) (f:Str) (e3:TE3) (D:E3) (Γ:G):Prop:=e3 Γ fun r Γ1=>oI (uL Γ1 i) fun C ns xs=>C=C0∧(f∉ns∧ns.length < 1000)∧D.nx (putD Γ1 i (.ins C (ns++[f]) (xs++[r.d])))
variable {X:Cx} {e:Expr} {te:TE} {e3:TE3} {pos:Pos}
end
end L3
namespace L3
open PySem L2
section
variable {K:PySem.W.Frag} {B:Bs} {F:Hp} {σ:L2.St} {H:Hp} {Γ:G} {X:Cx}
def Fz (Γa:G) (k:D→Prop):Prop:=match Γa with
 | some (.ln d)::_=>k d
 | _=>False
def Fe (C:Addr) (n:Nat) (S:S3) (t3:TA3) (Γ:G) (Q:RV→G→Prop):Prop:=t3 Γ fun ds Γ1=>ds.length + 1=n∧
 S (some (.ln (.ins C [] []))::ds.map fun d=>some (.fz d)) fun r Γa=>r=.fz .non∧Fz Γa fun d=>Q (.fr d) Γ1
end
end L3
namespace L3
open PySem L2
section
variable {K:PySem.W.Frag} {B:Bs} {F:Hp} {σ:L2.St} {H:Hp} {Γ:G} {X:Cx} {C f:Addr} {fd:FuncData} {ps:List Str} {x m:Str} {k n:Nat} {S:S3} {p pos:Pos} {e:Expr} {es:List Expr} {t:TA} {t3:TA3} {te:TE} {e3:TE3}
end
end L3
namespace L3
open PySem L2
section
variable {K:PySem.W.Frag} {B:Bs} {F:Hp} {σ:L2.St} {H:Hp} {Γ:G} {X:Cx}
def signs (z:Str):List D:=z.cps.toList.map fun c=>D.str (sgn c)
def oS (d:D) (k:Str→Prop):Prop:=match d with
 | .str z=>k z
 | _=>False
def asc (z:Str):Bool:=z.cps.all (· < 128)
def iS3 (a3:TE3) (Γ:G) (Q:List D→G→Prop):Prop:=a3 Γ fun r Γ1=>oS r.d fun z=>asc z=true∧Q (signs z) Γ1
def GA (lo c:Int) (n:Nat):List D:=(List.range n).map fun (k:Nat)=>D.int (lo + (k:Int) * c)
def Fp (t3:TA3) (Γ:G) (Q:List D→G→Prop):Prop:=t3 Γ fun ds Γ1=>∃ j:Int,ds=[.int j]∧(0≤j∧j < 2 ^ 62)∧Q (GA (j - 1) (-1) j.toNat) Γ1
end
end L3
namespace L3
open PySem L2
section
variable {K:PySem.W.Frag} {B:Bs} {F:Hp} {σ:L2.St} {H:Hp} {Γ:G} {X:Cx} {a b o e f:Expr} {ta tb te tf to:TE} {a3 b3:TB3} {e3 f3:TE3} {pos apos cpos:Pos}
def Ba (x y:D) (Γ:G) (Q:RV→G→Prop):Prop:=match x,y with
 | .str z,.int n=>(n=0∨n=1)∧z.length≤sizeLine∧Q (.fz (.str (if n=0 then Str.empty else z))) Γ
 | _,_=>False
def dS:D→Bool
 | .str _=>true
 | _=>false
end
end L3
namespace L3
open PySem L2
mutual
def dt:D→PyData
 | .non=>.none
 | .bl b=>.bool b
 | .int i=>.int i
 | .str x=>.str x
 | .lst xs=>.list (dtL xs)
 | .tup xs=>.tuple (dtL xs)
 | .dct=>.dict []
 | .dcs k i=>.dict [(.str k,.int i)]
 | _=>.none
def dtL:List D→List PyData
 | []=>[]
 | x::xs=>dt x::dtL xs
end
inductive Sh:Nat→Nat→D→Prop where
 | non:Sh 100 1 .non
 | bl (b:Bool):Sh 100 1 (.bl b)
 | int {i:Int} (h:i.natAbs < 10 ^ 60):Sh 100 1 (.int i)
 | str {x:Str} {n:Nat} (h:(PyData.shown (.str x)).length≤n):Sh n 1 (.str x)
 | dct:Sh 100 1 .dct
 | dcs {k:Str} {i:Int} {n:Nat} (h:i.natAbs < 10 ^ 60) (hn:(PyData.shown (.dict [(.str k,.int i)])).length≤n):Sh n 1 (.dcs k i)
 | lst {n k l:Nat} {xs:List D} (h:∀ x∈xs,Sh n k x) (hl:xs.length≤l):Sh (l * (n + 2) + 3) (k + 1) (.lst xs)
 | tup {n k l:Nat} {xs:List D} (h:∀ x∈xs,Sh n k x) (hl:xs.length≤l):Sh (l * (n + 2) + 3) (k + 1) (.tup xs)
 | up {n k n' k':Nat} {d:D} (h:Sh n k d) (h1:n≤n') (h2:k≤k'):Sh n' k' d
def Cw:D→Bool
 | .lst _=>true
 | .tup _=>true
 | _=>false
def shw (d:D):Str:=(dt d).shown
section
variable {K:PySem.W.Frag} {B:Bs} {F:Hp} {σ:L2.St} {H:Hp} {Γ:G} {X:Cx}
end
end L3
namespace L3
open PySem L2
section
variable {K:PySem.W.Frag} {B:Bs} {F:Hp} {σ:L2.St} {H:Hp} {Γ:G} {X:Cx} {a o e f:Expr} {ta te tf:TE} {a3:TB3} {e3 f3:TE3} {pos apos cpos:Pos}
def BU (C0:Addr) (f:Str) (x:D) (Γ:G) (Q:RV→G→Prop):Prop:=match x with
 | .ins C ns xs=>C=C0∧m1 ((ns.zip xs).lookup f) (fun d=>Q (.fz d) Γ) ⟨⟩
 | _=>False
end
end L3
namespace L3
open PySem L2
section
variable {K:PySem.W.Frag} {B:Bs} {F:Hp} {σ:L2.St} {H:Hp} {Γ:G} {X:Cx} {e:Expr} {te:TE} {e3:TE3} {pos:Pos}
end
end L3
namespace L3
open PySem L2
def oIt (o:Option (Addr×List Str×List D)) (k:Addr→List Str→List D→Prop) (_:Tag k):Prop:=oI o k
theorem rK {C:Addr} {ns:List Str} {xs:List D} {k:Addr→List Str→List D→Prop} {t:Tag k}:oIt (some (C,ns,xs)) k t=k C ns xs:=rfl
def oSt (o:D) (k:Str→Prop) (_:Tag k):Prop:=oS o k
theorem uA {z:Str} {k:Str→Prop} {t:Tag k}:oSt (.str z) k t=k z:=rfl
def BR (o:G) (k:D→Prop) (_:Tag k):Prop:=Fz o k
theorem uP {d:D} {Γ:G} {k:D→Prop} {t:Tag k}:BR (some (.ln d)::Γ) k t=k d:=rfl
section
variable {Γ:G} {Q:RV→G→Prop} {QI:List D→G→Prop} {C C0:Addr} {i n:Nat} {f:Str} {S:S3} {e3:TE3} {a3:TB3} {t3:TA3} {D1:E3} {k1 k2:Str} {d1 d2 d0:D} {l3 h3:TO3}
theorem ug:Ew C0 i f e3 D1 Γ=(e3 Γ fun r Γ1=>oIt (uL Γ1 i) (fun C ns xs=>C=C0∧(f∉ns∧ns.length < 1000)∧D1.nx (putD Γ1 i (.ins C (ns++[f]) (xs++[r.d])))) ⟨⟩):=rfl
theorem Bv:iS3 e3 Γ QI=(e3 Γ fun r Γ1=>oSt r.d (fun z=>asc z=true∧QI (signs z) Γ1) ⟨⟩):=rfl
end
end L3
namespace L3
open PySem L2
def bT (c:Bool) (p q:Prop) (_:Tag p) (_:Tag q):Prop:=match c with
 | true=>p
 | false=>q
theorem FV {p q:Prop} {s:Tag p} {t:Tag q}:bT true p q s t=p:=rfl
theorem FW {p q:Prop} {s:Tag p} {t:Tag q}:bT false p q s t=q:=rfl
section
variable {Γ:G} {Q:RV→G→Prop} {QB:Bo→G→Prop} {QT:Bool→G→Prop} {QA:List D→G→Prop} {QL:List Bo→G→Prop} {QO:Option Int→G→Prop} {QG:G→Prop} {i j:Nat} {is:List Nat} {D1:E3} {t u:TS3} {e3 f3:TE3} {a3 b3 c3:TB3} {A3 B3:TT3} {t3:TA3} {tb:cq} {d:D} {l3 h3 s3:TO3} {bb:jQ} {ys:List D}
theorem BE:Cy t u D1 Γ=t { D1 with nx:=u D1 } Γ:=rfl
theorem yn:A_ D1 Γ=D1.nx Γ:=rfl
theorem BD:zz i e3 D1 Γ=(e3 Γ fun r Γ1=>bM Γ1 i∧D1.nx (Γ1.set i (some r.sl))):=rfl
theorem BF:EB e3 D1 Γ=e3 Γ D1.rt:=rfl
theorem yo:yQ e3 D1 Γ=(e3 Γ fun _ Γ1=>D1.nx Γ1):=rfl
theorem BB:tst e3 Γ QT=(e3 Γ fun x Γ1=>match x.d with | .bl k=>QT k Γ1 | _=>False):=rfl
theorem BL:bor i Γ QB=((∃ d,Gat Γ i=some d)∧QB (.v i) Γ):=rfl
theorem BM:bof e3 Γ QB=(e3 Γ fun x Γ1=>QB (.d x.d) Γ1):=rfl
theorem uM:BZ a3 tb Γ QL=(a3 Γ fun x Γ1=>tb Γ1 fun xs Γ2=>QL (x::xs) Γ2):=rfl
theorem ym:Ah Γ QL=QL [] Γ:=rfl
theorem yp:j5 e3 t3 Γ QA=(e3 Γ fun x Γ1=>t3 Γ1 fun xs Γ2=>QA (x.d::xs) Γ2):=rfl
theorem BH:xU Γ QA=QA [] Γ:=rfl
theorem h_c:t3C d Γ Q=Q (.fz d) Γ:=rfl
theorem BO:D6 A3 B3 Γ QT=(A3 Γ fun c Γ1=>bT c (B3 Γ1 QT) (QT false Γ1) ⟨⟩ ⟨⟩):=by
 show (A3 Γ fun c Γ1=>match c with | true=>B3 Γ1 QT | false=>QT false Γ1)=_
 congr 1
theorem Fu:or3 A3 B3 Γ QT=(A3 Γ fun c Γ1=>bT c (QT true Γ1) (B3 Γ1 QT) ⟨⟩ ⟨⟩):=by
 show (A3 Γ fun c Γ1=>match c with | true=>QT true Γ1 | false=>B3 Γ1 QT)=_
 congr 1
theorem BG:Dv A3 Γ QT=(A3 Γ fun c Γ1=>QT (!c) Γ1):=rfl
theorem BI:Ff t3 Γ Q=(t3 Γ fun xs Γ1=>xs.length≤sizeLine∧Q (.fr (.lst xs)) Γ1):=rfl
theorem BA:wI t3 Γ Q=(t3 Γ fun xs Γ1=>xs.length≤sizeLine∧Q (.fz (.tup xs)) Γ1):=rfl
theorem BN:D4 i e3 Γ Q=((∃ xs,cj Γ i=some xs)∧e3 Γ fun r Γ1=>∃ xs,cj Γ1 i=some xs∧xs.length < sizeLine∧Q (.fz .non) (putD Γ1 i (.lst (xs++[r.d])))):=rfl
theorem yi:Et is e3 D1 Γ=(e3 Γ fun r Γ1=>∃ ds Γ',r.d=.tup ds∧gives Γ1 is ds=some Γ'∧frees Γ1 is ds∧D1.nx Γ'):=rfl
theorem yh:A0 a3 Γ QO=(a3 Γ fun x Γ1=>∃ i,x.at Γ1=some (.int i)∧QO (some i) Γ1):=rfl
theorem yl:A9 Γ QO=QO none Γ:=rfl
abbrev hI (Iv:Nat→G→Prop) (k:Nat) (Γ:G) (_:Tag Iv):Prop:=Iv k Γ
def Bd (xs:List D) (Γ1:G) (g3:TG3) (b3:TS3) (E1:E3) (_:Tag (g3,b3,E1)):Prop:=∃ Iv:Nat→G→Prop,Iv 0 Γ1∧(∀ k d Γ,xs[k]?=some d→Iv k Γ→g3 d Γ fun Γ'=>b3 { E1 with nx:=Iv (k + 1),ct:=Iv (k + 1),bk:=E1.nx } Γ')∧∀ Γ,Iv xs.length Γ→E1.nx Γ
theorem BK {i3:TI3} {g3:TG3} {b3:TS3} {t1:Tag (i3,g3,b3)} {t2:Tag D1}:DQ i3 g3 b3 D1 Γ t1 t2=(i3 Γ fun xs Γ1=>Bd xs Γ1 g3 b3 D1 ⟨⟩):=rfl
theorem g4 {xs:List D} {Γ1:G} {g3:TG3} {b3:TS3} {E1:E3} {t:Tag (g3,b3,E1)} (Iv:Nat→G→Prop) (h0:Iv 0 Γ1) (hs:∀ k d Γ,xs[k]?=some d→Iv k Γ→g3 d Γ fun Γ'=>b3 { E1 with nx:=fun Γ=>hI Iv (k + 1) Γ ⟨⟩,ct:=fun Γ=>hI Iv (k + 1) Γ ⟨⟩,bk:=E1.nx } Γ')
  (he:∀ Γ,Iv xs.length Γ→E1.nx Γ):Bd xs Γ1 g3 b3 E1 t:=⟨Iv,h0,hs,he⟩
abbrev hJ (Iv:Nat→List D→G→Prop) (k:Nat) (ys:List D) (Γ:G) (_:Tag Iv):Prop:=Iv k ys Γ
def B1 (xs:List D) (Γ1:G) (fr:List (Option Nat)) (g3:TG3) (e3:TE3) (Q:RV→G→Prop) (_:Tag (fr,g3,e3,Q)):Prop:=∃ Iv:Nat→List D→G→Prop,Iv 0 [] (eK Γ1 (eY fr))∧
 (∀ k d ys Γc,xs[k]?=some d→ys.length=k→Iv k ys Γc→g3 d Γc fun Γ2=>e3 Γ2 fun r Γ3=>Iv (k + 1) (ys++[r.d]) Γ3)∧∀ ys Γc,ys.length=xs.length→Iv xs.length ys Γc→Q (.fr (.lst ys)) (bK fr Γ1 Γc)
theorem yq {fr:List (Option Nat)} {i3:TI3} {g3:TG3} {t1:Tag (fr,i3,g3,e3)} {t2:Tag Q}:B2 fr i3 g3 e3 Γ Q t1 t2=(i3 Γ fun xs Γ1=>xs.length < sizeLine∧B1 xs Γ1 fr g3 e3 Q ⟨⟩):=rfl
theorem cR {xs:List D} {Γ1:G} {fr:List (Option Nat)} {g3:TG3} {e3:TE3} {Q:RV→G→Prop} {t:Tag (fr,g3,e3,Q)} (Iv:Nat→List D→G→Prop) (h0:Iv 0 [] (eK Γ1 (eY fr)))
  (hs:∀ k d ys Γc,xs[k]?=some d→ys.length=k→Iv k ys Γc→g3 d Γc fun Γ2=>e3 Γ2 fun r Γ3=>hJ Iv (k + 1) (ys++[r.d]) Γ3 ⟨⟩) (he:∀ ys Γc,ys.length=xs.length→Iv xs.length ys Γc→Q (.fr (.lst ys)) (bK fr Γ1 Γc)):B1 xs Γ1 fr g3 e3 Q t:=⟨Iv,h0,hs,he⟩
def yU (xs:List D) (Γ1:G) (fr:List (Option Nat)) (g3:TG3) (b3:jQ) (Q:RV→G→Prop) (_:Tag (fr,g3,b3,Q)):Prop:=uH xs g3 b3 [] (eK Γ1 (eY fr)) fun ys Γc=>ys.length < sizeLine∧Q (.fr (.lst ys)) (bK fr Γ1 Γc)
theorem uO {fr:List (Option Nat)} {i3:TI3} {g3:TG3} {t1:Tag (fr,i3,g3,bb)} {t2:Tag Q}:yV fr i3 g3 bb Γ Q t1 t2=(i3 Γ fun xs Γ1=>yU xs Γ1 fr g3 bb Q ⟨⟩):=rfl
theorem g6 {xs:List D} {Γ1:G} {fr:List (Option Nat)} {g3:TG3} {b3:jQ} {Q:RV→G→Prop} {t:Tag (fr,g3,b3,Q)} (Iv:Nat→List D→G→Prop) (h0:Iv 0 [] (eK Γ1 (eY fr)))
  (hs:∀ k d ys Γ,xs[k]?=some d→Iv k ys Γ→g3 d Γ fun Γ'=>b3 ys Γ' fun ys Γ=>hJ Iv (k + 1) ys Γ ⟨⟩) (he:∀ ys Γc,Iv xs.length ys Γc→ys.length < sizeLine∧Q (.fr (.lst ys)) (bK fr Γ1 Γc)):yU xs Γ1 fr g3 b3 Q t:=⟨Iv,h0,hs,he⟩
theorem yK {n:Nat} {xs:List D}:eqN (n + 1) (.lst xs) (.lst [])=some xs.isEmpty:=by cases n <;> cases xs <;> rfl
theorem yL {n:Nat} {a b c:Int}:eqN (n + 1) (.lst [.int a,.int b,.int c]) (.lst [.int a,.int b,.int c])=some true:=by
 have:=nQ (n:=n) [a,b,c] [a,b,c]
 rw[decide_eq_true rfl] at this
 exact this
theorem i28 {a b:Option D}:(if 2=8 then a else b)=b:=if_neg (by decide)
def Bz (S:S3) (A:G) (L:List (Option Nat)) (Γ1:G) (Q:RV→G→Prop) (_:Tag Q):Prop:=S A (fun r Γa=>Q r (bK L Γ1 Γa))
def Fs (S:S3) (A:G) (Γ1:G) (Q:RV→G→Prop) (_:Tag Q):Prop:=S A (fun r Γa=>r=.fz .non∧BR Γa (fun d=>Q (.fr d) Γ1) ⟨⟩)
theorem u9 {n:Nat} {S:S3} {t3:cq}:qL n S t3 Γ Q=(t3 Γ fun bs Γ1=>bs.length=n∧(eM bs).Nodup∧Bz S (eK Γ1 (bs.map some)) ((bs.map some).map cn) Γ1 Q ⟨⟩):=rfl
theorem xX {C:Addr} {m:Str} {n:Nat} {S:S3} {o3:TB3} {t3:cq}:gZ C m n S o3 t3 Γ Q=(o3 Γ fun x Γ1=>(∃ ns xs,x.at Γ1=some (.ins C ns xs)∧m∉ns)∧t3 Γ1 fun bs Γ2=>bs.length + 1=n∧(eM (x::bs)).Nodup∧Bz S (eK Γ2 ((x::bs).map some)) (((x::bs).map some).map cn) Γ2 Q ⟨⟩):=rfl
theorem xZ {C:Addr} {n:Nat} {S:S3} {t3:TA3}:Fe C n S t3 Γ Q=(t3 Γ fun ds Γ1=>ds.length + 1=n∧Fs S (some (.ln (.ins C [] []))::ds.map fun d=>some (.fz d)) Γ1 Q ⟨⟩):=rfl
def bG (c:Bool) (t u:TS3) (E1:E3) (Γ:G) (_:Tag (t,u,E1)):Prop:=match c with
 | true=>t E1 Γ
 | false=>u E1 Γ
theorem Gf {s:Tag (t,u,D1)}:bG true t u D1 Γ s=t D1 Γ:=rfl
theorem Gg {s:Tag (t,u,D1)}:bG false t u D1 Γ s=u D1 Γ:=rfl
theorem g_ {c:Bool} {s:Tag (t,u,D1)} (h1:c=true→t D1 Γ) (h2:c=false→u D1 Γ):bG c t u D1 Γ s:=by
 cases c with
 | true=>exact h1 rfl
 | false=>exact h2 rfl
theorem BJ:DL A3 t u D1 Γ=(A3 Γ fun c Γ1=>bG c t u D1 Γ1 ⟨⟩):=by
 show (A3 Γ fun c Γ1=>match c with | true=>t D1 Γ1 | false=>u D1 Γ1)=_
 congr 1
theorem Fv {e:D}:j5 (t3C e) t3 Γ QA=(t3 Γ fun xs Γ2=>QA (e::xs) Γ2):=rfl
theorem yg {d e:D}:wI (j5 (t3C d) (j5 (t3C e) xU)) Γ Q=Q (.fz (.tup [d,e])) Γ:=by
 show (2≤sizeLine∧Q (.fz (.tup [d,e])) Γ)=_
 exact propext ⟨fun h=>h.2,fun h=>⟨by rw[sizeLine_eq];decide,h⟩⟩
theorem Fw {d e:D}:j5 (wI (j5 (t3C d) (j5 (t3C e) xU))) t3 Γ QA=(t3 Γ fun xs Γ2=>QA (.tup [d,e]::xs) Γ2):=by
 show wI (j5 (t3C d) (j5 (t3C e) xU)) Γ (fun x Γ1=>t3 Γ1 fun xs Γ2=>QA (x.d::xs) Γ2)=_
 rw[yg];rfl
end
theorem ln0 {α:Type} {us:List α} (h:us.length=0):us=[]:=List.eq_nil_of_length_eq_zero h
theorem ln1 {α:Type} {us:List α} (h:us.length=1):∃ a,us=[a]:=by
 match us,h with
 | [a],_=>exact⟨a,rfl⟩
theorem ln2 {α:Type} {us:List α} (h:us.length=2):∃ a b,us=[a,b]:=by
 match us,h with
 | [a,b],_=>exact⟨a,b,rfl⟩
theorem ln3 {α:Type} {us:List α} (h:us.length=3):∃ a b c,us=[a,b,c]:=by
 match us,h with
 | [a,b,c],_=>exact⟨a,b,c,rfl⟩
theorem ln4 {α:Type} {us:List α} (h:us.length=4):∃ a b c d,us=[a,b,c,d]:=by
 match us,h with
 | [a,b,c,d],_=>exact⟨a,b,c,d,rfl⟩
theorem ln5 {α:Type} {us:List α} (h:us.length=5):∃ a b c d e,us=[a,b,c,d,e]:=by
 match us,h with
 | [a,b,c,d,e],_=>exact⟨a,b,c,d,e,rfl⟩
end L3
namespace L3
open PySem L2
section
variable {K:PySem.W.Frag} {B:Bs} {F:Hp} {σ:L2.St} {H:Hp} {Γ:G} {X:Cx}
def frL (r:RV) (k:List D→Prop):Prop:=match r with
 | .fr (.lst xs)=>k xs
 | _=>False
def Ej (a3 b3:TE3) (Γ:G) (Q:RV→G→Prop):Prop:=a3 Γ fun r Γ1=>frL r fun xs=>b3 Γ1 fun r' Γ2=>frL r' fun ys=>Q (.two xs ys) Γ2
variable {a b:Expr} {ta tb:TE} {a3 b3:TE3} {pos:Pos}
def iT3 (a3:TE3) (Γ:G) (Q:List D→G→Prop):Prop:=a3 Γ fun r Γ1=>∃ xs,r.d=.tup xs∧Q xs Γ1
end
end L3
namespace L3
open PySem L2 PySem.Spec PyProof.Rows
section
variable {K:PySem.W.Frag} {B:Bs} {F:Hp} {σ:L2.St} {H:Hp} {Γ:G} {X:Cx} {p:Addr}
variable {st:Stmt} {rest:List Stmt} {t u:TS} {t3 u3:TS3}
end
section
variable {P:Program} {w:World} {K:PySem.W.Frag} {mg:Str→Option Value} {base:Heap}
end
end L3
namespace L3
open PySem L2 PySem.Spec PyProof.Rows
section
variable {P:Program} {w:World} {K:PySem.W.Frag} {mg:Str→Option Value} {base:Heap}
end
end L3
namespace L3
open PySem L2 PySem.Spec PyProof.Rows
section
variable {K:PySem.W.Frag} {B:Bs} {F:Hp} {σ:L2.St} {H:Hp} {Γ:G} {X:Cx} {pos:Pos}
def A8 (i j:Nat) (a3 b3:TE3) (D:E3) (Γ:G):Prop:=a3 Γ fun r Γ1=>frL r fun xs=>b3 Γ1 fun r' Γ2=>frL r' fun ys=>bM Γ2 i∧bM (Γ2.set i (some (.ow (.lst xs)))) j∧D.nx ((Γ2.set i (some (.ow (.lst xs)))).set j (some (.ow (.lst ys))))
def AR (i:Nat) (b3:TE3) (Γ:G) (Q:RV→G→Prop):Prop:=(∃ d,Gat Γ i=some d)∧b3 Γ fun r' Γ2=>frL r' fun ys=>∃ xs,Γ2[i]?=some (some (Sl.ow (.lst xs)))∧Q (.two xs ys) (Γ2.set i none)
end
section
variable {P:Program} {w:World} {K:PySem.W.Frag} {mg:Str→Option Value} {base:Heap}
end
end L3
namespace L3
open PySem L2
def wd (i:Int):List Nat:=(toString i).toList.map Char.toNat
def tl:List Int→List Nat
 | []=>[93]
 | i::is=>44::32::(wd i++tl is)
def lt:List Int→List Nat
 | []=>[91,93]
 | i::is=>91::(wd i++tl is)
end L3
namespace L3
open PySem L2 PySem.Spec PyProof.Rows
structure XD where
 C:Addr
 ns:List Str
 xs:List D
def Gk (K:PySem.W.Frag) (F:Hp) (cls:Value) (dx:Option Addr) (x:XD):Prop:=cls=.ref x.C∧∃ d gs,dx=some d∧F d=some (XdO d gs)∧gs.map (·.1)=x.ns∧aA K F x.xs (gs.map (·.2))
def XR (K:PySem.W.Frag) (B:Bs) (F0:Hp) (E:L2.St→XK) (W:XD→G→Prop):Prop:=∀ F' σ' H' Γ' cls dx x,aG F0 F'→En K B F' σ' H' Γ'→Gk K F' cls dx x→W x Γ'→E σ' cls dx H'
def Gq (K:PySem.W.Frag) (B:Bs) (F0:Hp) (t:TE) (t3:TE3):Prop:=∀ (F:Hp) (σ:L2.St) (H:Hp) (Γ:G) (Q:RV→G→Prop) (QQ:VK),aG F0 F→En K B F σ H Γ→t3 Γ Q→(∀ v H',Po K B F σ Q v H'→QQ v H')→t σ H QQ
def pG (K:PySem.W.Frag) (B:Bs) (F0:Hp) (t:TS) (t3:TS3):Prop:=∀ (F:Hp) (σ:L2.St) (H:Hp) (Γ:G) (D:Ends) (D3:E3),aG F0 F→En K B F σ H Γ→ml K B F D D3→t3 D3 Γ→t D σ H
structure P3X (K:PySem.W.Frag) (X:Cx) (B:Bs) (F0:Hp) (e:Expr) (t:TE) (t3:TE3):Prop where
 pe:PE X e t
 rf:Gq K B F0 t t3
structure sC (K:PySem.W.Frag) (X:Cx) (B:Bs) (F0:Hp) (st:Stmt) (t:TS) (t3:TS3):Prop where
 pe:PS X st t
 rf:pG K B F0 t t3
structure k_ (K:PySem.W.Frag) (X:Cx) (B:Bs) (F0:Hp) (st:List Stmt) (t:TS) (t3:TS3):Prop where
 pe:PSs X st t
 rf:pG K B F0 t t3
section
variable {K:PySem.W.Frag} {X:Cx} {B:Bs} {F0:Hp} {e:Expr} {st:Stmt} {rest:List Stmt} {te:TE} {e3:TE3} {t u:TS} {t3 u3:TS3} {pos:Pos}
theorem P3S.x (h:P3S K X st t t3):sC K X B F0 st t t3:=⟨h.pe,fun F σ H Γ D D3 _=>h.rf B F σ H Γ D D3⟩
theorem ou.x (h:ou K X rest t t3):k_ K X B F0 rest t t3:=⟨h.pe,fun F σ H Γ D D3 _=>h.rf B F σ H Γ D D3⟩
theorem j7 (h:sC K X B F0 st t t3):k_ K X B F0 [st] t t3:=⟨jC h.pe,h.rf⟩
theorem ky (h:sC K X B F0 st t t3) (h2:k_ K X B F0 rest u u3):k_ K X B F0 (st::rest) (Cq t u) (Cy t3 u3):=
 ⟨i9 h.pe h2.pe,fun F σ H Γ D D3 w e k q=>h.rf F σ H Γ { D with nx:=u D } { D3 with nx:=u3 D3 } w e ⟨fun F' σ' H' Γ' s e' q'=>h2.rf F' σ' H' Γ' D D3 (w.trans s) e' (k.mono s) q',k.rt,k.bk,k.ct⟩ q⟩
theorem mF (h:P3X K X B F0 e te e3) (hs:swapsWith e none pos.line X.env=pure false:=by rfl):sC K X B F0 (.Expr e pos) (wL te) (yQ e3):=⟨jD h.pe hs,fun F σ H Γ D D3 w e k q=>
 h.rf F σ H Γ _ _ w e q fun v H' ⟨F',Γ',r,s,e',rv,q'⟩=>k.nx F' σ H' Γ' s e' q'⟩
theorem AQ {c:Expr} {a b:List Stmt} {tc:TT} {A3:TT3} (hc:P3T K X c tc A3) (ha:k_ K X B F0 a t t3) (hb:k_ K X B F0 b u u3):sC K X B F0 (.If c a b pos) (Ct tc t u) (DL A3 t3 u3):=⟨A5 hc.pe ha.pe hb.pe,fun F σ H Γ D D3 w e k q=>
 hc.rf B F σ H Γ _ _ e q fun b H' ⟨F',Γ',s,e',q'⟩=>by
  cases b with
  | true=>exact ha.rf F' σ H' Γ' D D3 (w.trans s) e' (k.mono s) q'
  | false=>exact hb.rf F' σ H' Γ' D D3 (w.trans s) e' (k.mono s) q'⟩
end
abbrev S3X:=G→(RV→G→Prop)→(XD→G→Prop)→Prop
def mX (K:PySem.W.Frag) (n:Nat) (S:S3X):Sp:=fun vs H Q E=>vs.length=n∧∃ F own Γa Q3 W3,En K ⟨F,H,own⟩ F (vs.map some) H Γa∧(∀ (k:Nat) (d:D),Γa[k]?≠some (some (Sl.ow d)))∧S Γa Q3 W3∧
 (∀ r Γ',Q3 r Γ'→∀ v H' F',En K ⟨F,H,own⟩ F' (vs.map some) H' Γ'→k8 K ⟨F,H,own⟩ F' (vs.map some) H' Γ' v r→Q v H')∧
 ∀ x Γ',W3 x Γ'→∀ H' F' cls dx,En K ⟨F,H,own⟩ F' (vs.map some) H' Γ'→Gk K F' cls dx x→E cls dx H'
def qM (n:Nat) (S:S3X) (t3:cq) (W:XD→G→Prop) (Γ:G) (Q:RV→G→Prop):Prop:=t3 Γ fun bs Γ1=>bs.length=n∧(eM bs).Nodup∧S (eK Γ1 (bs.map some)) (fun r Γa=>Q r (bK ((bs.map some).map cn) Γ1 Γa)) fun x Γa=>W x (bK ((bs.map some).map cn) Γ1 Γa)
section
variable {K:PySem.W.Frag} {B:Bs} {F0:Hp}
theorem oN {t:TA} {t3:cq} {S:S3X} {n:Nat} {E:L2.St→XK} {W:XD→G→Prop} (h:pI K t t3) (x:XR K B F0 E W):Gq K B F0 (pQ (mX K n S) [] E t) (qM n S t3 W):=by
 intro F σ H Γ Q QQ w e q k
 refine h B F σ H Γ _ _ e q fun vs H1 ⟨F1,Γ1,bs,s1,e1,r1,hn,nd,q1⟩=>?_
 show mX K n S (vs++[]) H1 QQ (E σ)
 rw[List.append_nil]
 refine⟨by rw[r1.length];exact hn,F1,_,_,_,_,e1.args r1 nd,mM,q1,fun r Γa q v H' F' e2 rv=>?_,fun y Γa q H' F' cls dx e2 xr=>?_⟩
 ·obtain⟨s2,e3,rv2⟩:=e1.called e2 rv
  exact k _ _ ⟨F',_,r,s1.trans s2,e3,rv2,q⟩
 ·obtain⟨s2,e3,_⟩:=e1.called e2 (v:=.non) (r:=.fz .non) rfl
  exact x F' σ H' _ cls dx y ((w.trans s1).trans s2) e3 xr q
end
section
variable {P:Program} {w:World} {K:PySem.W.Frag} {mg:Str→Option Value} {base:Heap}
theorem Ag {x qual:Str} {st:Stmt} {f:Addr} {fd:FuncData} {N ps:List Str} {k:Nat} {S:S3X} (F:Fun K x qual st f fd) (Sc:av N ps (ag st)) (hN:ps.length≤N.length:=by decide)
  (hbody:∀ (cdv:Value) (A:Around) (outer:List Env) (s:Shared) (H:Hp) (E:XK),bO k (A.deeper (envOfC qual (ag st) s.heap.objs.size f cdv))→
   ∃ (t:TS) (t3:(XD→G→Prop)→TS3),(∀ B F0 W,XR K B F0 (fun _=>E) W→k_ K (jO (CX1 P w base) P w K mg base N qual (ag st) f cdv A outer s H E) B F0 (eX st) t (t3 W))∧
    ∀ Γa Q W3,S Γa Q W3→Γa.length=ps.length→t3 (fun x Γ'=>W3 x (gP Γa Γ')) { nx:=fun Γ'=>Q (.fz .non) (gP Γa Γ'),rt:=fun r Γ'=>Q r (gP Γa Γ') } (gH N Γa)) :
  aM P w K mg base (CX1 P w base) (k + 1) f fd ps (mX K ps.length S):=by
 obtain⟨oc,od,kV,doc,pm,an,cdv,ct,osl,rfl,lk,hcd⟩:=F.ex
 refine BS lk hcd Sc (fun vs H Q E h=>h.1) fun A outer s H vs Q E hr h=>?_
 obtain⟨hl,F0,own,Γa,Q3,W3,e,hno,hS,hQ,hW⟩:=h
 obtain⟨t,t3,ht,rd⟩:=hbody cdv A outer s H E hr
 have hla:Γa.length=ps.length:=by rw[← e.len,List.length_map];exact hl
 have xr:XR K ⟨F0,H,own⟩ F0 (fun _=>E) (fun x Γ'=>W3 x (gP Γa Γ')):=fun F' σ' H' Γ' cls dx x _ e' r q=>by
  obtain⟨a,_⟩:=e.out hno e' (v:=.non) (r:=.fz .non) rfl
  exact hW _ _ q _ _ _ _ a r
 have hp:=ht ⟨F0,H,own⟩ F0 _ xr
 refine⟨t,hp.pe,hp.rf F0 _ H _ _ { nx:=fun Γ'=>Q3 (.fz .non) (gP Γa Γ'),rt:=fun r Γ'=>Q3 r (gP Γa Γ') } (aG.refl F0) (e.start (N:=N) (by rw[hla];exact hN)) ⟨?_,?_,fun _ _ _ _ _ _ z=>False.elim z,fun _ _ _ _ _ _ z=>False.elim z⟩ (rd Γa Q3 W3 hS hla)⟩
 ·intro F' σ' H' Γ' s' e' q
  obtain⟨a,b⟩:=e.out hno e' (v:=.non) (r:=.fz .non) rfl
  exact hQ _ _ q _ _ _ a b
 ·intro F' σ' H' Γ' v r s' e' rv q
  obtain⟨a,b⟩:=e.out hno e' rv
  exact hQ _ _ q _ _ _ a b
end
end L3
namespace L3
open PySem L2 PySem.Spec PyProof.Rows
section
variable {K:PySem.W.Frag} {X:Cx} {B:Bs} {F0:Hp} {e:Expr} {te:TE} {e3:TE3} {pos:Pos}
end
section
variable {K:PySem.W.Frag} {X:Cx} {B:Bs} {F0:Hp} {CX:CXT} {k:Nat} {f C:Addr} {fd:FuncData} {ps:List Str} {x m:Str} {p pos apos:Pos} {e o:Expr} {es:List Expr} {ta:TE} {t:TA} {t3:cq} {o3:TB3} {n:Nat} {S:S3X} {E:L2.St→XK} {W:XD→G→Prop}
theorem pN (hK:X.K=K) (xr:XR K B F0 E W) (F:aM X.prog X.w X.K X.mg X.base CX k f fd ps (mX K n S)) (hx:dH CX X E) (hr:bO k X.A) (hg:Gl X x) (hm:X.mg x=some (.ref f)) (hk:PySem.W.keepIn X.K (.ref f)=true) (hb:Binds X.K fd ps [])
  (ha:oy K X (e::es) t t3) (hdb:(x == ("__debug__":Str))=false:=by decide) (he:starEach (e::es) X.env=(false,eval e X.env)::starEach es X.env:=by rfl) (hpl:(backTo pos (starEach es X.env)).any (·.1)=false:=by rfl) :
  P3X K X B F0 (.Call (.Name x p) (e::es) [] pos) (pQ (mX K n S) [] E t) (qM n S t3 W):=⟨xy F hr hg hm hk hb .nil hx ha.pe hdb he hpl,oN ha.rf xr⟩
end
def vq (K:PySem.W.Frag) (C:Addr) (ns:List Str):Sp:=fun vs H Q _=>∃ e ys,vs=.ref e::ys∧ys.length=ns.length∧H e=some (dJ e C none)∧∀ d,H d=none→d≠e→Q .non (upd (upd H d (XdO d (ns.zip ys))) e (dJ e C (some d)))
def sW (C:Addr) (ns:List Str) (t3:TA3) (W:XD→G→Prop) (_:E3) (Γ:G):Prop:=t3 Γ fun ds Γ1=>ds.length=ns.length∧W ⟨C,ns,ds⟩ Γ1
theorem tZ:∀ {ns:List Str} {ys:List V},ys.length=ns.length→(ns.zip ys).map (·.1)=ns
 | [],[],_=>rfl
 | n::ns,y::ys,h=>by simp only[List.zip_cons_cons,List.map_cons];rw[tZ (by simpa using h)]
 | [],_::_,h=>by cases h
 | _::_,[],h=>by cases h
theorem tY:∀ {ns:List Str} {ys:List V},ys.length=ns.length→(ns.zip ys).map (·.2)=ys
 | [],[],_=>rfl
 | n::ns,y::ys,h=>by simp only[List.zip_cons_cons,List.map_cons];rw[tY (by simpa using h)]
 | [],_::_,h=>by cases h
 | _::_,[],h=>by cases h
section
variable {K:PySem.W.Frag} {X:Cx} {B:Bs} {F0:Hp} {CX:CXT} {k:Nat} {f C:Addr} {fd:FuncData} {ps ns:List Str} {x:Str} {p pos cpos:Pos} {e:Expr} {es:List Expr} {t:TA} {t3:TA3} {E:XK} {W:XD→G→Prop}
theorem vA (h:Gr K t t3) (xr:XR K B F0 (fun _=>E) W):pG K B F0 (sO C (vq K C ns) [] E0 E t) (sW C ns t3 W):=by
 intro F σ H Γ D D3 w e kk q
 refine h B F σ H Γ _ _ e q fun vs H1 ⟨F1,Γ1,ds,s1,e1,r1,hn,q1⟩ y hy=>?_
 rw[List.append_nil]
 have hl:vs.length=ns.length:=by rw[r1.length];exact hn
 refine⟨y,vs,rfl,hl,au,fun d hd ne=>⟨rfl,some d,au,?_⟩⟩
 have hd1:H1 d=none:=by rw[ah ne] at hd;exact hd
 have eq:L2.del (upd (upd (upd H1 y (dJ y C none)) d (XdO d (ns.zip vs))) y (dJ y C (some d))) y=upd H1 d (XdO d (ns.zip vs)):=by
  funext b
  by_cases h1:b=y
  ·subst h1;rw[kY,ah (Ne.symm ne)];exact hy.symm
  ·rw[ix h1,ah h1]
   by_cases h2:b=d
   ·subst h2;rw[au,au]
   ·rw[ah h2,ah h2,ah h1]
 rw[eq]
 have hF:F1 d=none:=by
  cases z:F1 d with
  | none=>rfl
  | some o=>rw[e1.sub d o z] at hd1;cases hd1
 have e2:=e1.alloc hd1 (XdO d (ns.zip vs))
 have e3:=e2.freeze hF au (e1.dom d hd1) (e1.rL hd1)
 refine xr _ σ _ Γ1 _ _ ⟨C,ns,ds⟩ ((w.trans s1).trans (aV hF)) e3 ⟨rfl,d,_,rfl,au,tZ hl,?_⟩ q1
 rw[tY hl]
 exact r1.mono (aV hF)
theorem mP (hK:X.K=K) (xr:XR K B F0 (fun _=>E) W) (M:XMk X.K C f) (F:aM X.prog X.w X.K X.mg X.base CX0 k f fd ps (vq K C ns)) (hr:bO (k + 1) X.A) (hg:Gl X x) (hm:X.mg x=some (.ref C)) (hb:Binds X.K fd ps []) (hR:Raises X E) (hz:ps.length≤sizeLine)
  (ha:P3A K X (e::es) t t3) (hdb:(x == ("__debug__":Str))=false:=by decide) (he:starEach (e::es) X.env=(false,eval e X.env)::starEach es X.env:=by rfl) (hpl:(backTo cpos (starEach es X.env)).any (·.1)=false:=by rfl) :
  sC K X B F0 (.Raise (some (.Call (.Name x p) (e::es) [] cpos)) none pos) (sO C (vq K C ns) [] E0 E t) (sW C ns t3 W):=
 ⟨xj M F hr hg hm hb .nil kC hR hz ha.pe hdb he hpl,vA ha.rf xr⟩
end
end L3
namespace L3
open PySem L2 PySem.Spec PyProof.Rows
def E3.qz (D:E3) (i:Nat):E3:=⟨fun Γ=>bM Γ i∧D.nx (Γ.set i none),D.rt,fun Γ=>bM Γ i∧D.bk (Γ.set i none),fun Γ=>bM Γ i∧D.ct (Γ.set i none)⟩
def AS (K:PySem.W.Frag) (C₀:Addr) (i:Nat) (s3:TS3) (D:E3) (x:XD) (Γ:G):Prop:=PySem.W.mroIn K x.C (.ref C₀)=some true∧bM Γ i∧s3 (D.qz i) (Γ.set i (some (.fz (.exc x.C x.ns x.xs))))
def Ck (K:PySem.W.Frag) (C₀:Addr) (i:Nat) (b3:(XD→G→Prop)→TS3) (s3:TS3) (D:E3) (Γ:G):Prop:=b3 (AS K C₀ i s3 D) D Γ
section
variable {K:PySem.W.Frag} {B:Bs} {F F0:Hp} {σ:L2.St} {H:Hp} {Γ:G} {C₀:Addr} {i:Nat}
theorem En.gone (e:En K B F σ H Γ) (hi:bM Γ i):En K B F (σ.set i none) H (Γ.set i none):=by
 have e1:=e.forget hi
 have il:=kK hi
 have ne:∀ {j:Nat} {s:Sl},(Γ.set i none)[j]?=some (some s)→(σ.set i none)[j]?=σ[j]?:=fun {j s} q=>by
  by_cases z:j=i
  ·subst z;rw[aQ il] at q;cases q
  ·exact bW (Ne.symm z)
 have nh:∀ {j:Nat} {d:D},Hld (Γ.set i none) j d→(σ.set i none)[j]?=σ[j]?:=fun q=>q.elim ne ne
 refine⟨e1.sub,by rw[List.length_set];exact e1.len,fun j d q=>by rw[ne q];exact e1.fz j d q,fun j d q=>by rw[nh q];exact e1.hl j d q,fun j d p q a=>e1.ow j d p q (by rw[← ne q];exact a),fun j d p q a=>e1.ln j d p q (by rw[← ne q];exact a),
  fun j k d d' p q1 q2 a1 a2=>e1.dis j k d d' p q1 q2 (by rw[← nh q1];exact a1) (by rw[← nh q2];exact a2),fun j p q=>?_,e1.keep,e1.new,e1.rest,e1.dom⟩
 obtain⟨a,d,b⟩:=e1.par j p q
 exact⟨by rw[ne b];exact a,d,b⟩
theorem ml.qz {D:Ends} {D3:E3} (k:ml K B F D D3):ml K B F (D.qz i) (D3.qz i) where
 nx:=fun F' σ' H' Γ' s e q=>k.nx F' _ H' _ s (e.gone q.1) q.2
 rt:=fun F' σ' H' Γ' v r s e rv q=>k.rt F' σ' H' Γ' v r s e rv q
 bk:=fun F' σ' H' Γ' s e q=>k.bk F' _ H' _ s (e.gone q.1) q.2
 ct:=fun F' σ' H' Γ' s e q=>k.ct F' _ H' _ s (e.gone q.1) q.2
theorem zH {tb:(L2.St→XK)→TS} {b3:(XD→G→Prop)→TS3} {ts:TS} {s3:TS3} (hb:∀ F1 E W,XR K B F1 E W→pG K B F1 (tb E) (b3 W)) (hs:pG K B F0 ts s3):pG K B F0 (Cp K C₀ i tb ts) (Ck K C₀ i b3 s3):=by
 intro F σ H Γ D D3 w e k q
 refine hb F (zt K C₀ i ts D) (AS K C₀ i s3 D3) (fun F' σ' H' Γ' cls dx x s e' r q'=>?_) F σ H Γ D D3 (aG.refl F) e k q
 obtain⟨hm,hf,q'⟩:=q'
 obtain⟨rfl,d,gs,rfl,hd,hn,hr⟩:=r
 refine⟨x.C,rfl,hm,fun a ha=>?_⟩
 have hF:F' a=none:=by
  cases z:F' a with
  | none=>rfl
  | some o=>rw[e'.sub a o z] at ha;cases ha
 have e2:=e'.alloc ha (jz a (.ref x.C) (some d))
 have e3:=e2.freeze hF au (e'.dom a ha) (e'.rL ha)
 have s2:=aV (o:=jz a (.ref x.C) (some d)) hF
 have da:d≠a:=fun z=>by rw[z,hF] at hd;cases hd
 have rv:k8 K B (upd F' a (jz a (.ref x.C) (some d))) σ' (upd H' a (jz a (.ref x.C) (some d))) Γ' (.ref a) (.fz (.exc x.C x.ns x.xs)):=by
  show Rep K _ (.exc x.C x.ns x.xs) _
  rw[Rep]
  exact⟨a,some d,gs,rfl,au,(by show upd F' a _ d=_;rw[ah da];exact hd),hn,hr.mono s2⟩
 have e4:=e3.set hf rv
 exact hs _ _ _ _ _ _ ((w.trans s).trans s2) e4 ((k.mono (s.trans s2)).qz) q'
end
section
variable {K:PySem.W.Frag} {X:Cx} {B:Bs} {F0:Hp} {x nm:Str} {i:Nat} {C₀ L:Addr} {body suite:List Stmt} {b₀:Stmt} {np hpos pos:Pos} {tb:(L2.St→XK)→TS} {b3:(XD→G→Prop)→TS3} {ts:TS} {s3:TS3}
theorem Cc (hK:X.K=K) (c:zk X.K C₀) (hst:X.stack=X.env::X.outer) (hfr:X.env.frame=some L) (hg:Gl X x) (hm:X.mg x=some (.ref C₀)) (hN:X.N.Nodup) (hi:X.N[i]?=some nm) (hk:X.env.kindOf nm=some .local)
  (hb:∀ pins F1 E W,XR K B F1 E W→k_ K ((X.ka pins).iT (XP (X.ka pins) E)) B F1 body (tb E) (b3 W))
  (hs:∀ pins e,k_ K ((X.ka pins).sui e) B F0 (b₀::suite) ts s3) (hdb:(x == ("__debug__":Str))=false:=by decide) :
  sC K X B F0 (.Try body [.ExceptHandler (some (.Name x np)) (some nm) (b₀::suite) hpos] [] [] pos) (Cp K C₀ i tb ts) (Ck K C₀ i b3 s3):=by
 subst hK
 exact⟨CP c hst hfr hg hm hN hi hk (fun pins E=>(hb pins F0 E (fun _ _=>False) (fun _ _ _ _ _ _ _ _ _ _ q=>q.elim)).pe) (fun pins e=>(hs pins e).pe) hdb,zH (fun F1 E W xr=>(hb [] F1 E W xr).rf) (hs [] 0).rf⟩
end
end L3
namespace L3
open PySem L2 PySem.Spec PyProof.Rows
section
variable {K:PySem.W.Frag} {X:Cx} {a:Expr} {ta:TE} {a3:TB3} {pos:Pos}
def wu (P:Addr→Prop) (f:Str) (x:D) (Γ:G) (Q:RV→G→Prop):Prop:=match x with
 | .exc C ns xs=>P C∧∃ d,(ns.zip xs).lookup f=some d∧Q (.fz d) Γ
 | _=>False
theorem qm {f:Str} {P:Addr→Prop} (hK:X.K=K) (ha:P3B K X a ta a3) (hC:∀ C,P C→qU K C∧iz K C f) (hb:attributeBase a f X.env (eval a X.env)=eval a X.env) :
  P3 K X (.Attribute a f pos) (AU K ta f) (vp (wu P f) a3):=⟨by subst hK;exact zZ ha.pe hb,sV (r:=fun x H1 Q=>∃ e C d fs v,x=.ref e∧H1 e=some (jz e (.ref C) (some d))∧H1 d=some (XdO d fs)∧qU K C∧iz K C f∧fs.lookup f=some v∧Q v H1) (ta:=ta) (by
 intro B F σ H Γ x dx Q QQ e rx q k
 unfold wu at q
 split at q
 ·obtain⟨hP,d,hd,q⟩:=q
  obtain⟨p,dd,gs,rfl,h1,h0,h2,h3⟩:=rx
  obtain⟨v,hv,r⟩:=aA.lookup h2 h3 hd
  obtain⟨c1,c2⟩:=hC _ hP
  cases dd with
  | none=>rw[show gs=[] from h0] at hv;cases hv
  | some dd=>exact⟨p,_,dd,gs,v,rfl,e.sub _ _ h1,e.sub _ _ h0,c1,c2,hv,k _ _ (gn e r q)⟩
 ·exact q.elim) ha.rf⟩
def dvv:D→Option Value
 | .adr a=>some (.ref a)
 | .ty n=>some (.type n)
 | _=>none
def DJ (K:PySem.W.Frag) (P:Addr→Prop) (ds:List D) (Γ:G) (Q:RV→G→Prop):Prop:=match ds with
 | [.exc C ns xs,c]=>P C∧∃ u b,dvv c=some u∧PySem.W.kitOne K (.ref C) u=some b∧Q (.fz (.bl b)) Γ
 | _=>False
theorem vc {P:Addr→Prop} (hK:X.K=K) (hC:∀ C,P C→XIs K C):B3 K X (.builtin "isinstance") (fun xs H Q=>∃ e C d fs c b,xs=[.ref e,c]∧H e=some (jz e (.ref C) d)∧XDk H d fs∧XIs K C∧isC c=true∧PySem.W.kitOne K (.ref C) (vv c)=some b∧Q (.bl b) H) (DJ K P):=⟨by subst hK;exact y3,by
 intro B F σ H Γ vs ds Q QQ e r q k
 unfold DJ at q
 split at q
 ·obtain⟨v,w,rfl,h1,h2⟩:=r.two
  obtain⟨hP,u,b,hu,hk,q⟩:=q
  obtain⟨p,dd,gs,rfl,g1,g0,g2,g3⟩:=h1
  rename_i c
  have hw:isC w=true∧vv w=u:=by
   cases c with
   | adr a=>cases h2;cases hu;exact⟨rfl,rfl⟩
   | ty n=>cases h2;cases hu;exact⟨rfl,rfl⟩
   | _=>cases hu
  exact⟨p,_,dd,gs,w,b,rfl,e.sub _ _ g1,g0.mono e.sub,hC _ hP,hw.1,by rw[hw.2];exact hk,k _ _ (iC e q)⟩
 ·exact q.elim⟩
def ye (K:PySem.W.Frag) (P:Addr→Prop) (ds:List D) (Γ:G) (Q:RV→G→Prop):Prop:=match ds with
 | [.exc C ns xs,.tup cs]=>P C∧∃ us b,cs.mapM dvv=some us∧PySem.W.kitAny K (.ref C) us=some b∧Q (.fz (.bl b)) Γ
 | _=>False
theorem FE:∀ {cs:List D} {vs:List V} {us:List Value} {F:Hp},aA K F cs vs→cs.mapM dvv=some us→vs.all isC=true∧vs.map vv=us
 | [],_,us,F,h,q=>by cases h;cases q;exact⟨rfl,rfl⟩
 | c::cs,_,us,F,⟨v,ws,h1,h2,h3⟩,q=>by
  subst h1
  rw[List.mapM_cons] at q
  obtain⟨u,hu,q⟩:=Option.bind_eq_some_iff.mp q
  obtain⟨us',hus,q⟩:=Option.bind_eq_some_iff.mp q
  cases q
  obtain⟨i1,i2⟩:=FE h3 hus
  have hw:isC v=true∧vv v=u:=by
   cases c with
   | adr a=>cases h2;cases hu;exact⟨rfl,rfl⟩
   | ty n=>cases h2;cases hu;exact⟨rfl,rfl⟩
   | _=>cases hu
  exact⟨by rw[List.all_cons,hw.1,i1];rfl,by rw[List.map_cons,hw.2,i2]⟩
theorem tU {P:Addr→Prop} (hK:X.K=K) (hC:∀ C,P C→XIs K C):B3 K X (.builtin "isinstance") (fun xs H Q=>∃ e C d fs tp cs b,xs=[.ref e,.ref tp]∧H e=some (jz e (.ref C) d)∧XDk H d fs∧H tp=some (.tup cs)∧XIs K C∧cs.all isC=true∧PySem.W.kitAny K (.ref C) (cs.map vv)=some b∧Q (.bl b) H) (ye K P):=⟨by subst hK;exact wg,by
 intro B F σ H Γ vs ds Q QQ e r q k
 unfold ye at q
 split at q
 ·obtain⟨v,w,rfl,h1,h2⟩:=r.two
  obtain⟨hP,us,b,hu,hk,q⟩:=q
  obtain⟨p,dd,gs,rfl,g1,g0,g2,g3⟩:=h1
  obtain⟨tp,vs,rfl,t1,t2⟩:=h2
  obtain⟨i1,i2⟩:=FE t2 hu
  exact⟨p,_,dd,gs,tp,vs,b,rfl,e.sub _ _ g1,g0.mono e.sub,e.sub _ _ t1,hC _ hP,i1,by rw[i2];exact hk,k _ _ (iC e q)⟩
 ·exact q.elim⟩
end
end L3
namespace L2
open PySem PySem.Spec PyProof.Rows
section
variable {X:Cx}
theorem y7:dM X (.builtin "isinstance") (fun xs H Q=>∃ x c t b,xs=[x,c]∧kv X.K H x t∧isC c=true∧PySem.W.kitOne X.K t (vv c)=some b∧Q (.bl b) H):=by
 intro pins s σ H xs us Q I r h
 obtain⟨x,c,t,b,rfl,ty,ic,k,q⟩:=h
 obtain⟨u,w',rfl,ru,rw'⟩:=vals2 r
 obtain rfl:=wF ic rw'
 exact oZ I ru ty k fun tk=>⟨.bl b,H,I.tok _,rfl,q⟩
end
end L2
namespace L3
open PySem L2
section
variable {K:PySem.W.Frag} {B:Bs} {F:Hp} {σ:L2.St} {H:Hp} {Γ:G} {X:Cx} {a b o e:Expr} {to te ta:TE} {e3 o3 a3:TE3} {b3:TB3} {pos apos cpos:Pos}
section
variable (hbase:∀ m:Str,m="removeprefix"∨m="split"∨m="join"→True)
end
def Bu (ds:List D) (Γ:G) (Q:RV→G→Prop):Prop:=match ds with
 | [.str z]=>∃ n,(PySem.intText? z=some n∧z.length≤640)∧Q (.fz (.int n)) Γ
 | _=>False
def itx (i:Int):Str:=Str.ofString (toString i)
def inT (i j:Str):Bool:=!(Builtin.Str.occurrences j i 0 j.length 1).isEmpty
def Fo (x y:D) (Γ:G) (Q:RV→G→Prop):Prop:=match x,y with
 | .str i,.str j=>Q (.fz (.bl (inT i j))) Γ
 | _,_=>False
def isN:D→Bool
 | .non=>true | _=>false
def Fl (neg:Bool) (x y:D) (Γ:G) (Q:RV→G→Prop):Prop:=y=.non∧Q (.fz (.bl (neg ^^ isN x))) Γ
theorem DK {d:D} {v:V} (h:gf K F H d v):decide (v=.non)=isN d:=by
 cases d <;> first
  | (cases h;rfl)
  | (obtain⟨p,vs,rfl,_⟩:=h;rfl)
  | (obtain⟨p,rfl,_⟩:=h;rfl)
  | (obtain⟨rfl,_⟩:=h;rfl)
  | (obtain⟨p,dx,gs,rfl,_⟩:=h;rfl)
theorem D2:C3 K X .Is (fun x y H Q=>y=.non∧Q (.bl (decide (x=.non))) H) (Fl false):=⟨Dn,fun B F σ H Γ x y dx dy Q QQ e rx ry q k=>by
 obtain⟨rfl,q⟩:=q
 cases ry
 rw[DK rx]
 exact⟨rfl,k _ _ (iC e (by simpa using q))⟩⟩
theorem zV (e:En K B F σ H Γ) {Q:RV→G→Prop} {l:Addr} (hl:H l=none) (q:Q (.fz .dct) Γ):Po K B F σ Q (.ref l) (upd H l (.dK [])):=
 ⟨upd F l (.dK []),Γ,.fz .dct,aV (e.nof hl),(e.alloc hl _).freeze (e.nof hl) au (e.dom _ hl) (e.rL hl),⟨l,rfl,au⟩,q⟩
theorem Dc:P3 K X (.Dict [] [] pos) wM (t3C .dct):=⟨xw,fun B F σ H Γ Q QQ e q k=>fun p hp=>k _ _ (zV e hp q)⟩
theorem cF {x:Str} {C:Addr} (hg:Gl X x) (hm:X.mg x=some (.ref C)) (hd:(x == ("__debug__":Str))=false:=by decide):P3 K X (.Name x pos) (tC (.ref C)) (t3C (.adr C)):=
 ⟨qi hg hm rfl hd,fun B F σ H Γ Q QQ e q k=>k _ _ (gn (d:=.adr C) e rfl q)⟩
def GG (C:Addr):D→Option Bool
 | .ins C' _ _=>if C'=C then some true else none
 | d=>if knD d=true then some false else none
def Fj (C:Addr) (ds:List D) (Γ:G) (Q:RV→G→Prop):Prop:=match ds with
 | [d,.adr C']=>C'=C∧∃ b,GG C d=some b∧Q (.fz (.bl b)) Γ
 | _=>False
end
section
variable {K:PySem.W.Frag} {X:Cx} {c:Expr} {body:List Stmt} {tc:TT} {A3:TT3} {tb:TS} {b3:TS3} {pos:Pos}
end
end L3
namespace L3
open PySem L2
end L3
namespace L3
open PySem L2
section
variable {K:PySem.W.Frag} {X:Cx} {st:Stmt} {t:TS} {t3:TS3}
theorem P3S.ofX (h:∀ B F0,sC K X B F0 st t t3):P3S K X st t t3:=⟨(h ⟨fun _=>none,fun _=>none,[]⟩ fun _=>none).pe,fun B F σ H Γ D D3 e k q=>(h B F).rf F σ H Γ D D3 (aG.refl F) e k q⟩
def Gy (K:PySem.W.Frag):Sp:=fun vs H Q _=>∃ e C dx y,vs=[.ref e,y]∧fj K C "ValueError" "ValueError.__new__"=true∧H e=some (dJ e C dx)∧Q .non H
end
def fz3 (e3:TE3) (Γ:G) (Q:RV→G→Prop):Prop:=e3 Γ fun r Γ1=>Q (.fz r.d) Γ1
def Fq (S:S3X) (Γa:G) (ls:List (Option Nat)) (Γ:G) (Q:RV→G→Prop) (W:XD→G→Prop) (_:Tag (Q,W)):Prop:=S Γa (fun r Γb=>Q r (bK ls Γ Γb)) fun x Γb=>W x (bK ls Γ Γb)
section
variable {Γ:G} {Q:RV→G→Prop} {W:XD→G→Prop} {D:E3}
theorem Ay {n:Nat} {S:S3X} {t3:cq}:qM n S t3 W Γ Q=(t3 Γ fun bs Γ1=>bs.length=n∧(eM bs).Nodup∧Fq S (eK Γ1 (bs.map some)) ((bs.map some).map cn) Γ1 Q W ⟨⟩):=rfl
theorem zM {C:Addr} {ns:List Str} {t3:TA3}:sW C ns t3 W D Γ=(t3 Γ fun ds Γ1=>ds.length=ns.length∧W ⟨C,ns,ds⟩ Γ1):=rfl
end
end L3
namespace L2
open PySem PySem.Spec PyProof.Rows
section
variable {X:Cx} {a b e:Expr} {ta tb te:TE} {rest es:List Expr} {pos:Pos}
theorem zQ {st:Stmt} {t:TS} (h:PS (X.iT fun _ _=>False) st t):PS X st t:=fun pins s σ H D I q=>by
 refine wpAny_mono (h pins s σ H D (I.iT _) q) (fun f s1 q=>?_) fun _ _ z=>z.elim
 cases f with
 | next=>obtain⟨σ',H',I',q⟩:=q;exact⟨σ',H',I'.cx,q⟩
 | brk=>obtain⟨σ',H',I',q⟩:=q;exact⟨σ',H',I'.cx,q⟩
 | cont=>obtain⟨σ',H',I',q⟩:=q;exact⟨σ',H',I'.cx,q⟩
 | ret u=>obtain⟨v,σ',H',I',r,q⟩:=q;exact⟨v,σ',H',I'.cx,r,q⟩
end
end L2
namespace L3
open PySem L2
section
variable {K:PySem.W.Frag} {B:Bs} {F:Hp} {σ:L2.St} {H:Hp} {Γ:G} {X:Cx} {a b o e:Expr} {rest es:List Expr} {to te ta tb:TE} {e3 o3 a3 b3:TE3} {pos apos cpos:Pos}
def Ha (ds:List D) (Γ:G) (Q:RV→G→Prop):Prop:=match ds with
 | [.str z]=>z.length=1∧Q (.fz (.int (z.cps.getD 0 0:Nat))) Γ
 | _=>False
def scl:D→Option Str
 | .non=>some "None"
 | .bl c=>some (if c then "True" else "False")
 | .int i=>some (itx i)
 | .str z=>some (reprText z)
 | _=>none
def rpr (d:D):Str:=(scl d).getD (shw d)
def okR (d:D):Prop:=(Cw d=true∨d=.dct)∧Sh 10000000 20 d∨d=.non∨(∃ c,d=.bl c)∨(∃ i,d=.int i∧i.natAbs < 10 ^ 60)∨∃ z,d=.str z∧(reprText z).length≤sizeLine
def w9 (ds:List D) (Γ:G) (Q:RV→G→Prop):Prop:=match ds with
 | [d]=>okR d∧Q (.fz (.str (rpr d))) Γ
 | _=>False
theorem P3S.calm {st:Stmt} {t:TS} {t3:TS3} (h:P3S K (X.iT fun _ _=>False) st t t3):P3S K X st t t3:=⟨zQ h.pe,h.rf⟩
end
end L3
namespace L2
open PySem PySem.Spec PyProof.Rows
section
variable {X:Cx} {pins:List (Addr×Obj)} {σ:St} {H:Hp} {s:Shared} {e C:Addr} {dx:Option Addr}
end
section
variable {X:Cx} {CX:CXT} {k:Nat} {f C:Addr} {fd:FuncData} {ps:List Str} {sp:Sp} {dvs:List V} {ds:List Value} {E':XK} {x:Str} {p cpos:Pos} {e:Expr} {es:List Expr} {t:TA}
end
end L2
namespace L3
open PySem L2 PySem.Spec PyProof.Rows
section
variable {K:PySem.W.Frag} {X:Cx} {B:Bs} {F0:Hp} {k:Nat} {f C:Addr} {fd:FuncData} {ps ns:List Str} {x:Str} {p cpos:Pos} {e:Expr} {es:List Expr} {t:TA} {t3:TA3}
end
section
variable {K:PySem.W.Frag} {X:Cx} {e:Expr} {te:TE} {e3:TE3}
end
end L3
namespace L2
open PySem PySem.Spec PyProof.Rows
structure mB (K:PySem.W.Frag) (U C:Addr):Prop where
 mro:∃ cd rest,PySem.W.clsIn K C=some cd∧cd.mro=.ref C::rest∧rest.all (fun v=>match v with | .ref a=>a == U | .type _=>true | _=>false)=true∧(C=U∨Value.ref U∈rest)∧Value.type "ValueError"∈rest
 ty:PySem.W.typeIn K (.ref C)=some (.type "type")
section
variable {K:PySem.W.Frag} {U C D:Addr}
theorem mB.other (x:mB K U C) (y:mB K U D) (ne:D≠C) (nu:D≠U):PySem.W.kitOne K (.ref C) (.ref D)=some false:=by
 obtain⟨cd,rest,h1,h2,h3,_⟩:=x.mro
 obtain⟨cd2,rest2,g1,_⟩:=y.mro
 have s:PySem.W.subIn K (.ref C) (.ref D)=some false:=by
  show PySem.W.mroIn K C (.ref D)=_
  unfold PySem.W.mroIn
  rw[h1,Option.bind_some,if_neg (by rw[h2];simp),h2]
  congr 1
  rw[List.contains_cons,Bool.or_eq_false_iff]
  refine⟨by rw[beq_eq_false_iff_ne];exact fun e=>ne (Value.ref.inj e),?_⟩
  rw[Bool.eq_false_iff]
  intro c
  have m:=List.contains_iff_mem.mp c
  have:=List.all_eq_true.mp h3 _ m
  exact nu (beq_iff_eq.mp this)
 unfold PySem.W.kitOne
 rw[if_neg (by intro e;exact ne (Value.ref.inj (beq_iff_eq.mp e)).symm)]
 unfold PySem.W.kitCls
 dsimp only
 rw[if_pos (by rw[g1,y.ty];rfl)]
 exact s
theorem mB.self:PySem.W.kitOne K (.ref C) (.ref C)=some true:=by
 unfold PySem.W.kitOne
 rw[if_pos (by simp)]
theorem mB.ve (x:mB K U C):PySem.W.kitOne K (.ref C) (.type "ValueError")=some true:=by
 obtain⟨cd,rest,h1,h2,h3,_,h5⟩:=x.mro
 have s:PySem.W.subIn K (.ref C) (.type "ValueError")=some true:=by
  show PySem.W.mroIn K C (.type "ValueError")=_
  unfold PySem.W.mroIn
  rw[h1,Option.bind_some,if_neg (by rw[h2];simp),h2]
  congr 1
  exact List.contains_iff_mem.mpr (List.mem_cons_of_mem _ h5)
 unfold PySem.W.kitOne
 rw[if_neg (by simp)]
 unfold PySem.W.kitCls
 dsimp only
 rw[if_pos (by decide +kernel)]
 exact s
end
structure zj (K:PySem.W.Frag) (U C f:Addr) (ns:List Str):Prop where
 xm:XMk K C f
 cl:tW K C
 is:XIs K C
 un:mB K U C
 na:∀ n∈ns,iz K C n
 tk:∀ n∈ns,PySem.W.takerIn K C n=some none
def Cg (K:PySem.W.Frag) (U C:Addr):Bool:=match PySem.W.clsIn K C with
 | none=>false
 | some cd=>match cd.mro with
  | .ref c::rest=>c == C && rest.all (fun v=>match v with | .ref a=>a == U | .type _=>true | _=>false) && (C == U || rest.contains (.ref U)) && rest.contains (.type "ValueError")
  | _=>false
theorem Ce {K:PySem.W.Frag} {U C:Addr} (h:Cg K U C=true) (ty:PySem.W.typeIn K (.ref C)=some (.type "type")):mB K U C:=by
 unfold Cg at h
 cases e:PySem.W.clsIn K C with
 | none=>rw[e] at h;cases h
 | some cd=>
  rw[e] at h
  dsimp only at h
  split at h
  ·rename_i c rest hm
   simp only[Bool.and_eq_true,Bool.or_eq_true,beq_iff_eq] at h
   obtain⟨⟨⟨rfl,h2⟩,h3⟩,h4⟩:=h
   exact⟨⟨cd,rest,e,hm,h2,h3.imp id List.contains_iff_mem.mp,List.contains_iff_mem.mp h4⟩,ty⟩
  ·cases h
def xoB (K:PySem.W.Frag) (U C f:Addr) (ns:List Str):Bool:=
 fj K C "ValueError" "ValueError.__new__" && PySem.W.findIn K (.ref C) "__init__" == some (some (.ref f)) && PySem.W.isFn K (.ref f) && PySem.W.keepIn K (.ref C) && PySem.W.hasDictIn K C && (PySem.W.clsIn K C).any (fun cd=>lh cd.mro)
 && PySem.W.findIn K (.ref C) "__setattr__" == some (some (.builtin "object.__setattr__")) && PySem.W.findIn K (.ref C) "__getattribute__" == some (some (.builtin "BaseException.__getattribute__")) && PySem.W.findIn K (.ref C) "__getattr__" == some none
 && PySem.W.mroIn K C (.type "BaseException") == some true && PySem.W.findIn K (.ref C) "__class__" == some (some (.builtin "object.__class__")) && PySem.W.specialIn K (.builtin "object.__class__") "__get__" == some (some (.builtin "getset_descriptor.__get__"))
 && PySem.W.takesIn K (.builtin "object.__class__") == some true && PySem.W.mroIn K C (.type "object") == some true && Cg K U C && PySem.W.typeIn K (.ref C) == some (.type "type")
 && ns.all (fun n=>PySem.W.findIn K (.ref C) n == some none && PySem.W.takerIn K C n == some none)
theorem t6 {K:PySem.W.Frag} {U C f:Addr} {ns:List Str} (h:xoB K U C f ns=true):zj K U C f ns:=by
 unfold xoB at h
 simp only[Bool.and_eq_true,beq_iff_eq,List.all_eq_true] at h
 obtain⟨⟨⟨⟨⟨⟨⟨⟨⟨⟨⟨⟨⟨⟨⟨⟨h1,h2⟩,h3⟩,h4⟩,h5⟩,h6⟩,h7⟩,h8⟩,h9⟩,h10⟩,h11⟩,h12⟩,h13⟩,h14⟩,h15⟩,h16⟩,h17⟩:=h
 exact⟨⟨h1,h2,h3,h4⟩,⟨h5,h6,h7⟩,⟨⟨h8,h9,h5,h10⟩,h11,h12,h13,h14⟩,Ce h15 h16,fun n hn=>(h17 n hn).1,fun n hn=>(h17 n hn).2⟩
def xT:List Addr→Bool
 | []=>true
 | x::xs=>xs.all (fun y=>!(x == y)) && xT xs
theorem xS:∀ {l:List Addr},xT l=true→l.Nodup
 | [],_=>List.nodup_nil
 | x::xs,h=>by
  rw[xT,Bool.and_eq_true,List.all_eq_true] at h
  refine List.nodup_cons.mpr ⟨fun m=>?_,xS h.2⟩
  have:=h.1 x m
  simp at this
theorem qu {K:PySem.W.Frag} {U:Addr} {l:List Addr} (nd:(U::l).Nodup) (hu:∀ C∈l,mB K U C) {i j:Nat} {C D:Addr} (hi:l[i]?=some D) (hj:l[j]?=some C):PySem.W.kitOne K (.ref C) (.ref D)=some (decide (i=j)):=by
 obtain⟨n1,n2⟩:=List.nodup_cons.mp nd
 by_cases e:i=j
 ·subst e
  rw[hi] at hj
  cases hj
  rw[decide_eq_true rfl]
  exact mB.self
 ·rw[decide_eq_false e]
  refine(hu C (List.mem_of_getElem? hj)).other (hu D (List.mem_of_getElem? hi)) (fun z=>?_) (fun z=>n1 (z ▸ List.mem_of_getElem? hi))
  subst z
  obtain⟨a1,a2⟩:=List.getElem?_eq_some_iff.mp hi
  obtain⟨b1,b2⟩:=List.getElem?_eq_some_iff.mp hj
  rcases Nat.lt_or_gt_of_ne e with lt | gt
  ·exact List.pairwise_iff_getElem.mp n2 i j a1 b1 lt (a2.trans b2.symm)
  ·exact List.pairwise_iff_getElem.mp n2 j i b1 a1 gt (b2.trans a2.symm)
end L2
namespace L3
open PySem L2 PySem.Spec PyProof.Rows
section
variable {K:PySem.W.Frag} {X:Cx} {k:Nat} {f C:Addr} {fd:FuncData} {ps:List Str} {x:Str} {p cpos:Pos} {e:Expr} {es:List Expr} {t:TA} {t3:TA3}
end
section
variable {K:PySem.W.Frag} {X:Cx} {pos p1 p2:Pos} {x y:Str}
end
section
variable {K:PySem.W.Frag} {X:Cx} {F:Hp} {a b:Expr} {ta tb:TE} {a3 b3:TB3} {pos:Pos}
def Bb (x y:D) (Γ:G) (Q:RV→G→Prop):Prop:=match x,y with
 | .lst xs,.int n=>(0≤n∧n≤1000∧xs.length * n.toNat≤sizeLine)∧Q (.fr (.lst (List.replicate n.toNat xs).flatten)) Γ
 | _,_=>False
end
end L3
namespace L2
open PySem PySem.Spec PyProof.Rows
section
variable {X:Cx} {pins:List (Addr×Obj)} {σ σ':St} {H:Hp} {s:Shared} {L:Nat} {st:Stmt} {ss:List Stmt} {t:TS}
end
end L2
namespace L3
open PySem L2 PySem.Spec PyProof.Rows
section
variable {K:PySem.W.Frag} {X:Cx} {B:Bs} {F F':Hp} {σ σ':L2.St} {H:Hp} {Γ Γ':G} {pos:Pos}
def Wk (K:PySem.W.Frag) (Γ Γ':G):Prop:=∀ (B:Bs) (F:Hp) (σ:L2.St) (H:Hp),En K B F σ H Γ→∃ F',aG F F'∧En K B F' σ H Γ'
def wk3 (K:PySem.W.Frag) (t3:TS3) (D:E3) (Γ:G):Prop:=∃ Γ',Wk K Γ Γ'∧t3 D Γ'
end
end L3
namespace L3
open PySem L2 PySem.Spec PyProof.Rows
section
variable {K:PySem.W.Frag} {X:Cx} {B:Bs} {F F':Hp} {σ σ':L2.St} {H:Hp} {Γ Γ':G} {pos:Pos}
def D7 (r:RV) (k:Addr→Prop):Prop:=match r with
 | .fz (.adr q)=>k q
 | _=>False
def Cz (r:RV) (k:List (List D)→Prop):Prop:=match r with
 | .rws xss=>k xss
 | _=>False
def vB (b:Bo) (k:Nat→Prop):Prop:=match b with
 | .v j=>k j
 | .d _=>False
def G0 (e3:TE3) (Γ:G) (Q:Bo→G→Prop):Prop:=e3 Γ fun r Γ1=>D7 r fun q=>∃ j xs,Hld Γ1 j (.cel q xs)∧Q (.v j) Γ1
def EM (Γ:G) (j:Nat) (xs:List D):G:=match Γ[j]? with
 | some (some (.ow (.cel q _)))=>Γ.set j (some (.ow (.cel q xs)))
 | some (some (.ln (.cel q _)))=>Γ.set j (some (.ln (.cel q xs)))
 | _=>Γ
variable {o k e:Expr} {to tk te:TE} {o3 k3:TB3} {e3:TE3} {p2 apos cpos:Pos}
def Ex (o3 k3:TB3) (e3:TE3) (D:E3) (Γ:G):Prop:=e3 Γ fun r Γ1=>o3 Γ1 fun bo Γ2=>vB bo fun j=>k3 Γ2 fun b Γ3=>∃ q xs k n,Hld Γ3 j (.cel q xs)∧b.at Γ3=some (.int k)∧ixN xs.length k=some n∧D.nx (EM Γ3 j (xs.set n r.d))
def wW (Γ:G) (g:Nat):List Addr→List (List D)→G
 | q::qs,xs::xss=>wW (Γ.set g (some (.ow (.cel q xs)))) (g + 1) qs xss
 | _,_=>Γ
def Eu (g i:Nat) (e3:TE3) (u3:TS3) (D:E3) (Γ:G):Prop:=e3 Γ fun r Γ1=>Cz r fun xss=>bM Γ1 i∧(∀ k,k < xss.length + 1→Γ1[g + k]?=some none)∧∀ p qs,qs.length=xss.length→u3 D (wW (Γ1.set i (some (.fz (.adr p)))) g (p::qs) (qs.map .adr::xss))
end
end L3
namespace L3
open PySem L2 PySem.Spec PyProof.Rows
section
variable {K:PySem.W.Frag} {X:Cx} {B:Bs} {F F':Hp} {σ σ':L2.St} {H:Hp} {Γ Γ':G} {pos:Pos}
def yW (fr:List (Option Nat)) (i3:TI3) (g3:TG3) (e3:TE3) (Γ:G) (Q:RV→G→Prop):Prop:=i3 Γ fun xs Γ1=>xs.length < sizeLine∧∃ Iv:Nat→List (List D)→G→Prop,Iv 0 [] (eK Γ1 (eY fr))∧
 (∀ k d ys Γc,xs[k]?=some d→ys.length=k→Iv k ys Γc→g3 d Γc fun Γ2=>e3 Γ2 fun r Γ3=>frL r fun zs=>Iv (k + 1) (ys++[zs]) Γ3)∧∀ ys Γc,ys.length=xs.length→Iv xs.length ys Γc→Q (.rws ys) (bK fr Γ1 Γc)
end
end L3
namespace L3
open PySem L2 PySem.Spec PyProof.Rows
section
variable {K:PySem.W.Frag} {X:Cx} {B:Bs} {F F':Hp} {σ σ':L2.St} {H:Hp} {Γ Γ':G} {pos:Pos}
end
end L3
namespace L3
open PySem L2 PySem.Spec PyProof.Rows
section
variable {K:PySem.W.Frag} {X:Cx} {B:Bs} {F F':Hp} {σ σ':L2.St} {H:Hp} {Γ Γ':G} {pos:Pos}
end
section
variable {P:Program} {w:World} {K:PySem.W.Frag} {mg:Str→Option Value} {base:Heap}
end
theorem Ai {ls:List (Option Nat)} {cs:G} {j:Nat} (h:∀ k:Nat,ls[k]?≠some (some j)):newD ls cs j=none:=by
 cases q:newD ls cs j with
 | none=>rfl
 | some d=>obtain⟨k,a,_⟩:=e_ q;exact absurd a (h k)
section
variable {K:PySem.W.Frag} {X:Cx} {B:Bs} {F F':Hp} {σ σ':L2.St} {H:Hp} {Γ Γ':G} {pos:Pos}
variable {k L n:Nat} {f:Addr} {fd:FuncData} {ps:List Str} {x:Str} {p:Pos} {e:Expr} {es:List Expr} {t:TA} {t3:cq} {S:S3}
end
end L3
namespace L3
open PySem L2 PySem.Spec PyProof.Rows
section
variable {K:PySem.W.Frag} {X:Cx} {B:Bs} {F F':Hp} {σ σ':L2.St} {H:Hp} {Γ Γ':G} {pos:Pos}
end
section
variable {K:PySem.W.Frag} {B:Bs} {F F':Hp} {σ σ':L2.St} {H:Hp} {Γ Γ':G}
variable {P:Program} {w:World} {mg:Str→Option Value} {base:Heap}
end
end L3
namespace L2
open PySem PySem.Spec PyProof.Rows
section
variable {X:Cx}
end
end L2
namespace L3
open PySem L2 PySem.Spec PyProof.Rows
section
variable {K:PySem.W.Frag} {X:Cx} {B:Bs} {F F':Hp} {σ σ':L2.St} {H:Hp} {Γ Γ':G} {pos:Pos}
end
theorem sk {xs:List D}:bare (.lst xs)=.lst xs:=rfl
theorem sq {C:Addr} {ns:List Str} {xs:List D}:bare (.ins C ns xs)=.ins C ns xs:=rfl
theorem sr {q:Addr} {xs:List D}:bare (.cel q xs)=.lst xs:=rfl
def tlG (T:G):G:=T
def n6 (k:Nat) (ls:List (Option Nat)) (Γ cs:G):G:=Γ.mapIdx fun i s=>jx (newD ls cs (i + k)) s
def lsB:List (Option Nat)→Nat→Bool
 | [],_=>true
 | none::l,k=>lsB l k
 | some j::l,k=>decide (j < k) && lsB l k
section
variable {Γ cs T:G} {ls:List (Option Nat)} {k:Nat} {s:Option Sl}
theorem vh:bK ls Γ cs=n6 0 ls Γ cs:=rfl
theorem pE:n6 k ls [] cs=[]:=rfl
theorem n5:n6 k ls (s::Γ) cs=jx (newD ls cs k) s::n6 (k + 1) ls Γ cs:=by
 unfold n6
 rw[List.mapIdx_cons,Nat.zero_add]
 congr 2
 funext i s
 rw[Nat.add_right_comm,Nat.add_assoc]
theorem tE:∀ {ls:List (Option Nat)},lsB ls k=true→∀ {j:Nat},k≤j→∀ a:Nat,ls[a]?≠some (some j)
 | [],_,j,_,a,h=>by simp at h
 | none::l,hb,j,hj,0,h=>by simp at h
 | none::l,hb,j,hj,a + 1,h=>tE (ls:=l) hb hj a (by simpa using h)
 | some i::l,hb,j,hj,0,h=>by
  have hb:(decide (i < k) && lsB l k)=true:=hb
  rw[Bool.and_eq_true] at hb
  have:=of_decide_eq_true hb.1
  simp at h;omega
 | some i::l,hb,j,hj,a + 1,h=>by
  have hb:(decide (i < k) && lsB l k)=true:=hb
  rw[Bool.and_eq_true] at hb
  exact tE (ls:=l) hb.2 hj a (by simpa using h)
theorem tV {s:Option Sl}:jx none s=s:=by
 cases s with
 | none=>rfl
 | some s=>cases s <;> rfl
theorem sv (h:lsB ls k=true):n6 k ls (tlG T) cs=tlG T:=by
 unfold n6 tlG
 apply List.ext_getElem?
 intro i
 rw[List.getElem?_mapIdx,Ai fun a=>tE h (Nat.le_add_left k i) a]
 cases T[i]? with
 | none=>rfl
 | some s=>simp [tV]
theorem uG:lsB [] k=true:=rfl
theorem rQ {l:List (Option Nat)}:lsB (none::l) k=lsB l k:=rfl
theorem rP {l:List (Option Nat)} {j:Nat}:lsB (some j::l) k=(decide (j < k) && lsB l k):=rfl
end
section
variable {fr:List (Option Nat)} {i3:TI3} {g3:TG3} {e3:TE3} {o3 k3:TB3} {b3 u3 t3:TS3} {Γ:G} {Q:RV→G→Prop} {D1:E3} {K:PySem.W.Frag}
def yT (fr:List (Option Nat)) (i3:TI3) (g3:TG3) (e3:TE3) (Γ:G) (Q:RV→G→Prop) (_:Tag (fr,i3,g3,e3)) (_:Tag Q):Prop:=yW fr i3 g3 e3 Γ Q
theorem uZ:yW fr i3 g3 e3 Γ Q=yT fr i3 g3 e3 Γ Q ⟨⟩ ⟨⟩:=rfl
abbrev hR (Iv:Nat→List (List D)→G→Prop) (k:Nat) (ys:List (List D)) (Γ:G) (_:Tag Iv):Prop:=Iv k ys Γ
def DW (xs:List D) (Γ1:G) (fr:List (Option Nat)) (g3:TG3) (e3:TE3) (Q:RV→G→Prop) (_:Tag (fr,g3,e3,Q)):Prop:=∃ Iv:Nat→List (List D)→G→Prop,Iv 0 [] (eK Γ1 (eY fr))∧
 (∀ k d ys Γc,xs[k]?=some d→ys.length=k→Iv k ys Γc→g3 d Γc fun Γ2=>e3 Γ2 fun r Γ3=>frL r fun zs=>Iv (k + 1) (ys++[zs]) Γ3)∧∀ ys Γc,ys.length=xs.length→Iv xs.length ys Γc→Q (.rws ys) (bK fr Γ1 Γc)
theorem uN {t1:Tag (fr,i3,g3,e3)} {t2:Tag Q}:yT fr i3 g3 e3 Γ Q t1 t2=(i3 Γ fun xs Γ1=>xs.length < sizeLine∧DW xs Γ1 fr g3 e3 Q ⟨⟩):=rfl
def G1 (j:Nat) (ob:Option D) (d:D) (Γ:G) (N:G→Prop) (_:Tag N):Prop:=∃ q xs k n,Hld Γ j (.cel q xs)∧ob=some (.int k)∧ixN xs.length k=some n∧N (EM Γ j (xs.set n d))
theorem yk:Ex o3 k3 e3 D1 Γ=(e3 Γ fun r Γ1=>o3 Γ1 fun bo Γ2=>vB bo fun j=>k3 Γ2 fun b Γ3=>G1 j (b.at Γ3) r.d Γ3 D1.nx ⟨⟩):=rfl
theorem zh {q:Addr} {k:Addr→Prop}:D7 (.fz (.adr q)) k=k q:=rfl
theorem wZ {xss:List (List D)} {k:List (List D)→Prop}:Cz (.rws xss) k=k xss:=rfl
theorem Ei {j:Nat} {k:Nat→Prop}:vB (.v j) k=k j:=rfl
def G2 (q:Addr) (Γ:G) (Q:Bo→G→Prop) (_:Tag Q):Prop:=∃ j xs,Hld Γ j (.cel q xs)∧Q (.v j) Γ
theorem yr {QB:Bo→G→Prop}:G0 e3 Γ QB=(e3 Γ fun r Γ1=>D7 r fun q=>G2 q Γ1 QB ⟨⟩):=rfl
def GC (g i:Nat) (xss:List (List D)) (Γ1:G) (u3:TS3) (E1:E3) (_:Tag (u3,E1)):Prop:=bM Γ1 i∧(∀ k,k < xss.length + 1→Γ1[g + k]?=some none)∧∀ p qs,qs.length=xss.length→u3 E1 (wW (Γ1.set i (some (.fz (.adr p)))) g (p::qs) (qs.map .adr::xss))
theorem yj {g i:Nat}:Eu g i e3 u3 D1 Γ=(e3 Γ fun r Γ1=>Cz r fun xss=>GC g i xss Γ1 u3 D1 ⟨⟩):=rfl
def wkH (K:PySem.W.Frag) (t3:TS3) (E1:E3) (Γ:G) (_:Tag (t3,E1)):Prop:=wk3 K t3 E1 Γ
theorem Ft:wk3 K t3 D1 Γ=wkH K t3 D1 Γ ⟨⟩:=rfl
end
end L3
namespace L3
open PySem L2 PySem.Spec PyProof.Rows
def gh (c:D→Sl) (p:Addr) (ds:List D) (qs:List Addr) (xss:List (List D)):G:=some (c (.cel p ds))::List.zipWith (fun q xs=>some (c (.cel q xs))) qs xss
section
variable {c:D→Sl} {p q:Addr} {ds:List D} {qs:List Addr} {xs ys:List D} {xss:List (List D)} {T T' pre:G} {L g n m y:Nat} {K:PySem.W.Frag}
theorem w5 {R:List (List Int)}:List.map D.lst (List.map (fun r=>List.map D.int r) R)=List.map (fun ns=>D.lst (ns.map D.int)) R:=by rw[List.map_map];rfl
theorem wJ:(tlG (gh c p ds qs xss++T))[0]?=some (some (c (.cel p ds))):=rfl
section
variable {Γ:G} {QB:Bo→G→Prop} {t:Tag QB}
end
end
end L3
namespace L3
open PySem L2 PySem.Spec PyProof.Rows
section
variable {c:D→Sl} {p q:Addr} {ds:List D} {qs:List Addr} {xs ys:List D} {xss:List (List D)} {T T' T0 A Z pre Γ:G} {L g n m y:Nat} {K:PySem.W.Frag}
section
variable {QB:Bo→G→Prop} {t:Tag QB}
end
end
end L3
namespace L3
open PySem L2 PySem.Spec PyProof.Rows
section
variable {c:D→Sl} {p q:Addr} {ds:List D} {qs:List Addr} {xs ys:List D} {xss:List (List D)} {T T' T0 A Z pre Γ:G} {L L0 g n m y:Nat} {K:PySem.W.Frag}
end
end L3
namespace L2
open PySem PySem.Spec PyProof.Rows
section
variable {X:Cx}
end
end L2
namespace L2
open PySem PySem.Spec PyProof.Rows
def dv (n:Nat) (g:Addr→Option Obj) (m:Addr→Option Str):Heap:={ objs:=Array.ofFn (n:=n) fun i=>(g i.1).getD { cls:=(m i.1).elim .none fun q=>.str q 0,data:=.freed } }
section
variable {n:Nat} {g:Addr→Option Obj} {m:Addr→Option Str} {b:Addr} {o:Obj} {h:Heap}
theorem tM (e:h.get? b=some o):o.data≠.freed:=by
 unfold Heap.get? at e
 cases q:h.objs[b]? with
 | none=>rw[q] at e;cases e
 | some x=>
  rw[q] at e
  obtain⟨c,d,dt,sl⟩:=x
  cases dt with
  | freed=>cases e
  | _=>cases e;intro y;cases y
theorem jg:(dv n g m).objs.size=n:=by unfold dv;exact Array.size_ofFn
theorem jG (hb:b < n):(dv n g m).objs[b]?=some ((g b).getD { cls:=(m b).elim .none fun q=>.str q 0,data:=.freed }):=by
 unfold dv
 rw[Array.getElem?_eq_getElem (by rw[Array.size_ofFn];exact hb),Array.getElem_ofFn]
theorem s_ (hb:b < n) (hg:g b=some o) (nf:o.data≠.freed):(dv n g m).get? b=some o:=by
 unfold Heap.get?
 rw[jG hb,hg]
 obtain⟨c,d,dt,sl⟩:=o
 show (match some (Obj.mk c d dt sl) with | some ⟨_,_,.freed,_⟩=>none | o=>o)=_
 split
 ·rename_i z
  cases z
  exact absurd rfl nf
 ·rfl
theorem oV (e:(dv n g m).get? b=some o):b < n∧g b=some o:=by
 have hb:b < n:=by have:=Heap.lt_size e;rw[jg] at this;exact this
 refine⟨hb,?_⟩
 have nf:=tM e
 unfold Heap.get? at e
 rw[jG hb] at e
 cases q:g b with
 | none=>rw[q] at e;cases e
 | some o'=>
  rw[q] at e
  split at e
  ·cases e
  ·cases e;rfl
theorem s9 {q:Str} (hb:b < n) (hg:g b=none) (hm:m b=some q):qV (dv n g m) b q:=by
 unfold qV
 rw[jG hb,hg,hm]
 rfl
theorem xM {q:Str} (nf:∀ o,g b=some o→o.data≠.freed) (e:qV (dv n g m) b q):g b=none∧m b=some q:=by
 unfold qV at e
 have hb:b < n:=by
  obtain⟨z,_⟩:=Array.getElem?_eq_some_iff.mp e
  rw[jg] at z;exact z
 rw[jG hb] at e
 cases hg:g b with
 | some o=>
  rw[hg] at e
  have e':o={ cls:=.str q 0,data:=.freed }:=Option.some.inj e
  exact absurd (by rw[e']) (nf o hg)
 | none=>
  refine⟨rfl,?_⟩
  rw[hg] at e
  have e':=Option.some.inj e
  cases hm:m b with
  | none=>rw[hm] at e';have:=congrArg Obj.cls e';cases this
  | some q'=>
   rw[hm] at e'
   have:=congrArg Obj.cls e'
   have y:Value.str q' 0=Value.str q 0:=this
   cases y
   rfl
end
def pick (h:Heap) (p:Addr→Bool):Heap:=dv h.objs.size (fun b=>if p b=true then h.get? b else none) fun _=>none
section
variable {h:Heap} {p:Addr→Bool} {b:Addr} {o:Obj}
end
section
variable {X:Cx} {pins:List (Addr×Obj)} {σ:St} {H:Hp} {s:Shared}
end
section
variable {X:Cx} {k:Nat} {g:Addr} {fd:FuncData} {ps:List Str} {x nm:Str} {p pos:Pos} {e:Expr} {es:List Expr} {t:TA} {q:Str} {params:Arguments} {body:Expr} {scope:Scope} {i j:Nat}
def sP (i:Nat) (f:Addr) (sp:Sp) (t:TA):TE:=fun σ H Q=>σ[i]?=some (some (.ref f))∧t σ H fun vs H1=>sp vs H1 Q E0
end
end L2
namespace L2
open PySem PySem.Spec PyProof.Rows
section
variable {P:Program} {w:World} {K:PySem.W.Frag} {mg:Str→Option Value} {base:Heap} {ps:List Str} {q:Str} {params:Arguments} {body:Expr} {scope:Scope} {nm:Str} {o:Obj} {f:Addr} {v:V} {k:Nat} {sp:Sp}
end
end L2
namespace L2
open PySem PySem.Spec PyProof.Rows
theorem kJ {β:Type} {a:Addr} {v:β}:∀ {l:List (Addr×β)},l.lookup a=some v→(a,v)∈l
 | [],h=>by cases h
 | (b,u)::l,h=>by
  rw[List.lookup_cons] at h
  cases q:a == b with
  | true=>
   rw[q] at h
   cases h
   have e:a=b:=by simpa using q
   rw[e]
   exact List.mem_cons_self
  | false=>rw[q] at h;exact List.mem_cons_of_mem _ (kJ h)
def Gn (K:PySem.W.Frag) (h:Heap) (P:Addr):Prop:=h.get? P=some { cls:=.none,data:=.fields #[] }∧K.lookup P=none∧∃ c oc vs,h.get? c=some oc∧oc.cls=.type "code"∧oc.data=.fields vs∧vs[11]?=some (.ref P)
theorem vS {P:Program} {w:World} {K:PySem.W.Frag} {mg mb:Str→Option Value} {CX:CXT} {k:Nat} {fa a:Addr} {fd:FuncData} {x:Str} {sp:Sp} {s₁:Shared} {vs:List Value} {ns:List Int} {tabs:List (Addr×Str)}
  (KX:K.In s₁.heap) (hns:s₁.heap.Ns mainGlobals mg) (hb:s₁.heap.Ns builtinsNs mb) (hbb:∀ x:Str,x≠"__name__"→mb x=bootBuiltins x) (hlim:s₁.heap.NoLimit)
  (hbm:∃ bm ob,mg "__builtins__"=some (.ref bm)∧bm≠builtinsNs∧s₁.heap.get? bm=some ob∧ob.cls=.type "module"∧ob.dict=some builtinsNs∧ob.data=.plain) (hg:s₁.gens=#[])
  (ha:s₁.heap.get? a=some { cls:=.type "list",data:=.seq vs.toArray }) (hi:IntsAre vs ns) (hl:ns.length≤sizeLine) (hr:bO k callerA)
  (hT:∀ p∈tabs,Gn K s₁.heap p.1)
  (F:∀ base:Heap,K.In base→base.Ns mainGlobals mg→(∀ P q,tabs.lookup P=some q→qV base P q)→aM P w K mg base CX k fa fd [x] sp) (hbind:∀ (s:Shared) (u:Value),BindsTo s fd ⟨[u],[]⟩ [(x,u)])
  (hsp:∀ H:Hp,Ea H→SqL K H a (ns.map V.int)→sp [.ref a] H (fun v _=>v=.bl true) fun _ _ _=>False)
  (hCX:∀ H e s',CX [] H s₁ (fun _ _ _=>False) e s'→False) :
  codeAny (model P w) callerA (.call (.ref fa) ⟨[.ref a],[]⟩) (fun r s'=>r=.ok (.ret (.bool true))∧OldK s₁.heap s'.heap∧s'.os=s₁.os∧AllBare s'.gens) s₁:=by
 have rv:=lq hi
 have lenV:=hi.length
 have tabO:∀ {b:Addr} {q:Str},tabs.lookup b=some q→s₁.heap.get? b=some { cls:=.none,data:=.fields #[] }:=fun {b q} e=>(hT _ (kJ e)).1
 have tabA:tabs.lookup a=none:=by
  cases q:tabs.lookup a with
  | none=>rfl
  | some y=>have z:=tabO q;rw[ha] at z;cases z
 have core:∀ H:Hp,Ea H→SqL K H a (ns.map V.int)→HOk P w H s₁.heap→(∀ b u,H b=some u→b=a∨∃ q,tabs.lookup b=some q)→(H a≠none→K.lookup a=none)→(∀ b q,tabs.lookup b=some q→H b=some (.tbl #[.str q 0]))→
   codeAny (model P w) callerA (.call (.ref fa) ⟨[.ref a],[]⟩) (fun r s'=>r=.ok (.ret (.bool true))∧OldK s₁.heap s'.heap∧s'.os=s₁.os∧AllBare s'.gens) s₁:=by
  intro H hO hS hok hA hK hTb
  have base_of:∀ {b:Addr} {o:Obj},s₁.heap.get? b=some o→H b=none→(dv s₁.heap.objs.size (fun b=>if (H b).isNone then s₁.heap.get? b else none) fun b=>tabs.lookup b).get? b=some o:=fun e n=>s_ (Heap.lt_size e) (by rw[n];exact e) (tM e)
  have noT:∀ {b:Addr} {o:Obj},s₁.heap.get? b=some o→o.cls≠.type "list"→o≠{ cls:=.none,data:=.fields #[] }→H b=none:=fun {b o} e d1 d2=>by
   cases q:H b with
   | none=>rfl
   | some u=>
    rcases hA b u q with z | ⟨y,z⟩
    ·subst z
     rw[ha] at e;cases e
     exact absurd rfl d1
    ·rw[tabO z] at e;cases e
     exact absurd rfl d2
  have noA:∀ {b:Addr} {o:Obj} {es:Array DictEntry} {ep:Nat},s₁.heap.get? b=some o→o.data=.dict es ep→H b=none:=fun {b o es ep} e d=>by
   cases q:H b with
   | none=>rfl
   | some u=>
    rcases hA b u q with z | ⟨y,z⟩
    ·subst z
     rw[ha] at e;cases e;cases d
    ·rw[tabO z] at e;cases e;cases d
  have nsK:∀ {b:Addr} {m:Str→Option Value},s₁.heap.Ns b m→(dv s₁.heap.objs.size (fun b=>if (H b).isNone then s₁.heap.get? b else none) fun b=>tabs.lookup b).Ns b m:=fun {b m} ⟨o,es,ep,e,d,r⟩=>⟨o,es,ep,base_of e (noA e d),d,r⟩
  have hKb:K.In (dv s₁.heap.objs.size (fun b=>if (H b).isNone then s₁.heap.get? b else none) fun b=>tabs.lookup b):=fun b o e=>by
   refine base_of (KX b o e) ?_
   cases q:H b with
   | none=>rfl
   | some u=>
    rcases hA b u q with z | ⟨y,z⟩
    ·subst z
     rw[hK (by rw[q];simp)] at e;cases e
    ·have z2:=(hT _ (kJ z)).2.1
     rw[z2] at e;cases e
  have off:∀ {b:Addr} {o:Obj},(if (H b).isNone then s₁.heap.get? b else none)=some o→s₁.heap.get? b=some o∧H b=none:=fun {b o} e=>by
   split at e
   ·rename_i z;exact⟨e,by simpa using z⟩
   ·cases e
  have hM:Mod K mg (dv s₁.heap.objs.size (fun b=>if (H b).isNone then s₁.heap.get? b else none) fun b=>tabs.lookup b):=⟨hKb,nsK hns,⟨mb,nsK hb,hbb⟩,let ⟨mc,h1,h2⟩:=hlim;⟨mc,nsK h1,h2⟩,let ⟨bm,ob,h1,h2,h3,h4,h5⟩:=hbm;⟨bm,ob,h1,h2,base_of h3 (noT h3 (by rw[h4];decide) (by intro z;rw[z] at h4;cases h4)),h4,h5⟩⟩
  have e0:tX P w K mg (dv s₁.heap.objs.size (fun b=>if (H b).isNone then s₁.heap.get? b else none) fun b=>tabs.lookup b) callerA [] s₁ H:=⟨rfl,hM,fun b o e=>⟨(off (oV e).2).1,.inl (off (oV e).2).2⟩,Nat.le_of_eq jg,trivial,fun b hb=>absurd (show b∈([]:List Addr) from hb) (by simp),hok,.of_eq hg,
   fun P q z=>⟨_,0,hTb P q (xM (fun o e=>tM (off e).1) z).2,rfl⟩⟩
  refine codeAny_mono ((F _ hKb (nsK hns) fun P q z=>s9 (Heap.lt_size (tabO z)) (by rw[hTb P q z];rfl) z).run callerA [] s₁ H ⟨[.ref a],[]⟩ [.ref a] [.ref a] _ _ hr e0 (hbind s₁ (.ref a)) (.cons rfl .nil) (hsp H hO hS)) fun r s' h=>?_
  cases r with
  | error e=>exact(hCX H e s' h).elim
  | ok fl=>
   cases fl with
   | next=>exact False.elim h
   | brk=>exact False.elim h
   | cont=>exact False.elim h
   | ret u=>
    obtain⟨v,H',os,bare,un,hok',r',q⟩:=h
    have q':v=.bl true:=q
    subst q'
    obtain rfl:u=Value.bool true:=r'
    refine⟨rfl,⟨fun b o e=>?_,fun b o e=>un.there b o e (by simp)⟩,os,bare⟩
    cases q:H b with
    | none=>exact .inl (un.keep b o e q (by intro z;exact absurd (show b∈([]:List Addr) from z) (by simp)) (by simp))
    | some u=>
     rcases hO b with z | ⟨ob,xs,z⟩ | ⟨ps,z⟩
     ·rw[q] at z;cases z
     ·have z2:=un.frzs b ob _ z
      obtain⟨e1,_⟩:=hok b _ z
      obtain⟨e2,_⟩:=hok' b _ z2
      rw[e] at e1;cases e1
      exact .inl e2
     ·rcases hA b u q with y | ⟨y,hy⟩
      ·subst y
       obtain⟨_,_,_,_,e1,_⟩:=hok b _ z
       rw[ha] at e1;cases e1
      ·obtain⟨m,z2⟩:=un.tbls b ps z
       obtain⟨_,_,qs,_,e2,_⟩:=hok' b _ z2
       have e1:=tabO hy
       rw[e] at e1;cases e1
       obtain⟨c,oc,ws,c1,c2,c3,c4⟩:=(hT _ (kJ hy)).2.2
       exact .inr (.inl ⟨⟨c,oc,ws,c1,c2,c3,c4⟩,rfl,#[],qs,rfl,by rw[Array.empty_append];exact e2⟩)
 let Ht:Hp:=fun b=>(tabs.lookup b).map fun q=>.tbl #[.str q 0]
 have htOk:∀ {b:Addr} {u:HO} {H:Hp},Ht b=some u→bX P w H s₁.heap b u:=fun {b u H} z=>by
  cases q:tabs.lookup b with
  | none=>have z':(tabs.lookup b).map (fun q=>HO.tbl #[.str q 0])=some u:=z;rw[q] at z';cases z'
  | some y=>
   have z':(tabs.lookup b).map (fun q=>HO.tbl #[.str q 0])=some u:=z
   rw[q] at z';cases z'
   exact⟨y,0,#[],rfl,tabO q,trivial,fun _ _ r=>by simp [codeAmong] at r⟩
 have htSome:∀ {b:Addr} {u:HO},Ht b=some u→∃ q,tabs.lookup b=some q∧u=.tbl #[.str q 0]:=fun {b u} z=>by
  have z':(tabs.lookup b).map (fun q=>HO.tbl #[.str q 0])=some u:=z
  cases q:tabs.lookup b with
  | none=>rw[q] at z';cases z'
  | some y=>rw[q] at z';cases z';exact⟨y,rfl,rfl⟩
 have htA:Ht a=none:=by show (tabs.lookup a).map _=none;rw[tabA];rfl
 have htOf:∀ b q,tabs.lookup b=some q→Ht b=some (.tbl #[.str q 0]):=fun b q z=>by show (tabs.lookup b).map _=_;rw[z];rfl
 cases hk:K.lookup a with
 | some o=>
  have e:=KX a o hk
  rw[ha] at e
  cases e
  refine core Ht (fun b=>?_) (.inr ⟨_,vs.toArray,_,hk,rfl,rfl,rfl,by rw[List.size_toArray,lenV];exact hl,by simpa using rv⟩) (fun b u z=>htOk z) (fun b u z=>.inr (let ⟨q,h,_⟩:=htSome z;⟨q,h⟩)) (fun z=>absurd htA z) htOf
  cases z:Ht b with
  | none=>exact .inl rfl
  | some u=>obtain⟨q,_,rfl⟩:=htSome z;exact .inr (.inr ⟨_,rfl⟩)
 | none=>
  refine core (upd Ht a (.frz { cls:=.type "list",data:=.seq vs.toArray } (.lst (ns.map V.int)))) (fun b=>?_) (.inl (.inr ⟨{ cls:=.type "list",data:=.seq vs.toArray },au⟩)) (fun b u z=>?_) (fun b u z=>?_) (fun _=>hk) fun b q z=>?_
  ·by_cases hb:b=a
   ·subst hb;exact .inr (.inl ⟨_,_,au⟩)
   ·rw[ah hb]
    cases z:Ht b with
    | none=>exact .inl rfl
    | some u=>obtain⟨q,_,rfl⟩:=htSome z;exact .inr (.inr ⟨_,rfl⟩)
  ·by_cases hb:b=a
   ·subst hb
    rw[au] at z;cases z
    exact⟨ha,by rw[List.length_map];exact hl,vs,_,rv,ha⟩
   ·rw[ah hb] at z
    exact htOk z
  ·by_cases hb:b=a
   ·exact .inl hb
   ·rw[ah hb] at z
    exact .inr (let ⟨q,h,_⟩:=htSome z;⟨q,h⟩)
  ·rw[ah (fun y=>by rw[y,tabA] at z;cases z)]
   exact htOf b q z
theorem wC {l:PySem.W.OpenLaw} {n k:Nat} {q:Program} {loose:List Str} {XP:(Str→Option Value)→Heap→Prop} {YP:World→Heap→Prop} {d:DefRec} {K:Params→PySem.W.Frag} {CX:World→CXT} {sp:PySem.W.Frag→Sp} {x:Str} {ts:List Addr}
  (hn:l.most=some n) (hn2:n≤sizeLine) (hdf:d.params.defaults=[]) (hr:bO k callerA)
  (hY:∀ (w:World) (h:Heap),YP w h→(K w.params).In h∧∀ P∈ts,h.get? P=some (PySem.W.tabObj #[]))
  (F:∀ (w:World) (mg:Str→Option Value) (fa:Addr) (h:Heap),(K w.params).In h→h.Ns mainGlobals mg→mg d.name=some (.ref fa)→
   ∃ (fd:FuncData) (tabs:List (Addr×Str)),(∀ (s:Shared) (u:Value),BindsTo s fd ⟨[u],[]⟩ [(x,u)])∧(∀ p∈tabs,p.1∈ts∧(K w.params).lookup p.1=none∧∃ c,PySem.W.CodeHd h c p.1)∧
    ∀ base:Heap,(K w.params).In base→base.Ns mainGlobals mg→(∀ P q,tabs.lookup P=some q→qV base P q)→aM l.prog w (K w.params) mg base (CX w) k fa fd [x] (sp (K w.params)))
  (hsp:∀ (K:PySem.W.Frag) (H:Hp) (a:Addr) (ns:List Int),ns.length≤n→Ea H→SqL K H a (ns.map V.int)→sp K [.ref a] H (fun v _=>v=.bl true) fun _ _ _=>False)
  (hCX:∀ (w:World) (H:Hp) (s:Shared) (e:Value) (s':Shared),CX w [] H s (fun _ _ _=>False) e s'→False) :
  PySem.W.WalkO q loose XP YP l.row.toRowW d [] (fun f vs=>PySem.call f vs):=by
 refine Att.sA hn hdf fun w s₀ s₁ mg mb fa o pm cd doc a vs ns G Y ho hd hcd hmg hobj hints hlen hg=>?_
 obtain⟨KX,hts⟩:=hY w _ Y
 obtain⟨fd,tabs,hb,hT,hF⟩:=F w mg fa _ KX G.T.g hmg
 refine vS KX G.T.g G.T.b G.T.builtins G.T.nolimit G.T.bmain hg hobj hints (Nat.le_trans hlen hn2) hr (fun p hp=>?_) hF hb (fun H hO hS=>hsp _ H a ns hlen hO hS) fun H e s'=>hCX w H s₁ e s'
 obtain⟨h1,h2,c,o,vs,_,_,_,_,_,_,_,c1,c2,c3,c4,_⟩:=hT p hp
 exact⟨hts _ h1,h2,c,o,vs,c1,c2,c3,c4⟩
end L2
namespace L3
open PySem L2 PySem.Spec PyProof.Rows
section
variable {K:PySem.W.Frag} {X:Cx} {B:Bs} {F:Hp} {σ:L2.St} {H:Hp} {Γ:G} {pos:Pos} {q:Str} {params:Arguments} {body:Expr} {scope:Scope} {clos:List (Str×Addr)} {pm:Value}
end
end L3
namespace L3
open PySem L2 PySem.Spec PyProof.Rows
section
variable {K:PySem.W.Frag} {X:Cx} {F F':Hp} {σ σ':L2.St} {H H' H0:Hp} {Γ Γ':G} {pos:Pos} {i:Nat} {p:Addr} {qs own:List Addr} {xss:NR}
variable {st:Stmt} {rest ss:List Stmt} {t u:TS} {n3 m3:TN}
end
end L3
namespace L3
open PySem L2 PySem.Spec PyProof.Rows
section
variable {K:PySem.W.Frag} {X:Cx} {F F':Hp} {σ σ':L2.St} {H H' H0:Hp} {Γ Γ':G} {pos:Pos} {i:Nat} {p:Addr} {qs own:List Addr} {xss:NR}
variable {st:Stmt} {rest ss:List Stmt} {t u:TS} {n3 m3:TN}
end
end L3
namespace L3
open PySem L2 PySem.Spec PyProof.Rows
section
variable {K:PySem.W.Frag} {X:Cx} {F F':Hp} {σ σ':L2.St} {H H' H0:Hp} {Γ Γ':G} {pos:Pos} {i:Nat} {p:Addr} {qs own:List Addr} {xss:NR}
variable {st:Stmt} {rest ss:List Stmt} {t u:TS} {n3 m3:TN}
end
section
variable {P:Program} {w:World} {K:PySem.W.Frag} {mg:Str→Option Value} {base:Heap}
end
end L3
namespace L3
open PySem L2 PySem.Spec PyProof.Rows
section
variable {K:PySem.W.Frag} {X:Cx} {B:Bs} {F F':Hp} {σ σ':L2.St} {H H':Hp} {Γ Γ':G} {pos:Pos} {i g:Nat} {p:Addr} {qs:List Addr} {xss:NR}
end
end L3
namespace L3
open PySem L2 PySem.Spec PyProof.Rows
section
variable {K:PySem.W.Frag} {X:Cx} {pos:Pos} {i j l:Nat} {y:Str} {px p2:Pos} {o k e:Expr} {to te:TE} {e3:TE3}
variable {kk n:Nat} {f:Addr} {fd:FuncData} {ps:List Str} {x:Str} {p:Pos} {es:List Expr} {t:TA} {t3:cq} {S:List D→NR→(NR→Prop)→Prop} {rest:List Stmt} {u:TS} {u3:TS3}
end
end L3
namespace L2
open PySem PySem.Spec PyProof.Rows
section
variable {prog:Program} {w:World} {A:Around} {E:Value→Shared→Prop} {s:Shared}
end
section
variable {prog:Program} {w:World} {A:Around} {E:Value→Shared→Prop} {s:Shared}
end
section
variable {X:Cx}
end
end L2
namespace L3
open PySem L2
section
variable {K:PySem.W.Frag} {B:Bs} {F:Hp} {σ:L2.St} {H:Hp} {Γ:G} {X:Cx}
end
end L3
namespace L2
open PySem
structure FN (K:PySem.W.Frag) (x q:Str) (st:Stmt) (f:Addr) (d:FuncData):Prop where
 n:PySem.W.nsIn K mainGlobals x=some (some (.ref f))
 F:Fun K x q st f d
structure FM (K:PySem.W.Frag) (C:Addr) (x q:Str) (st:Stmt) (f:Addr) (d:FuncData):Prop where
 m:PySem.W.findIn K (.ref C) x=some (some (.ref f))
 i:PySem.W.isFn K (.ref f)=true
 F:Fun K x q st f d
structure FY (K:PySem.W.Frag) (x q:Str) (st:Stmt) (f:Addr) (d:FuncData) (ps:List Str):Prop where
 F:Fun K x q st f d
 b:Binds K d ps []
structure FX (K:PySem.W.Frag) (mg:Str→Option Value) (x q:Str) (st:Stmt) (f:Addr) (d:FuncData) (ps:List Str):Prop where
 F:Fun K x q st f d
 b:Binds K d ps []
 m:mg x=some (.ref f)
section
variable {K:PySem.W.Frag} {mg:Str→Option Value} {h:Heap} {C:Addr} {x q:Str} {st:Stmt} {f:Addr} {d:FuncData} {ps:List Str}
theorem fx (X:K.In h) (G:h.Ns mainGlobals mg) (F:FN K x q st f d) (b:∀ (kV doc pm:Value) (an:Option Addr) (cdv ct:Value) (us:List Value),us.length=ps.length→bindArgs (PySem.W.fnOf x q (jK st) (eX st) (ag st) .none kV doc pm an cdv ct) ⟨us,[]⟩=pure (ps.zip us)):FX K mg x q st f d ps:=⟨F.F,F.F.binds b,PySem.W.mg_of X G F.n⟩
theorem fy (F:FM K C x q st f d) (b:∀ (kV doc pm:Value) (an:Option Addr) (cdv ct:Value) (us:List Value),us.length=ps.length→bindArgs (PySem.W.fnOf x q (jK st) (eX st) (ag st) .none kV doc pm an cdv ct) ⟨us,[]⟩=pure (ps.zip us)):FY K x q st f d ps:=⟨F.F,F.F.binds b⟩
theorem bO.dn {j k:Nat} {A:Around} (r:bO k A) (h:j≤k:=by decide):bO j A:=r.mono h
theorem FM.me (F:FM K C x q st f d):Meth K C x f:=⟨F.m,F.i,F.F.kp⟩
end
end L2
namespace L2
open PySem PySem.Spec PyProof.Rows
def sD (K:PySem.W.Frag) (d:Addr):List (Str×Addr)→Prop
 | []=>True
 | p::l=>PySem.W.nsIn K d p.1=some (some (.ref p.2))∧sD K d l
theorem sD.at {K:PySem.W.Frag} {d:Addr} {k:Str} {f:Addr}:∀ {l:List (Str×Addr)},sD K d l→l.lookup k=some f→PySem.W.nsIn K d k=some (some (.ref f))
 | [],_,h=>nomatch h
 | (y,g)::l,⟨h1,h2⟩,h=>by
  rw[List.lookup_cons] at h
  by_cases e:k=y
  ·subst e
   rw[beq_self_eq_true] at h
   cases h
   exact h1
  ·rw[show (k == y)=false from beq_eq_false_iff_ne.mpr e] at h
   exact sD.at h2 h
structure AN (K:PySem.W.Frag) (P:Params) (mg:Str→Option Value) (x:Str) (d:Addr) (l:List (Str×Addr)):Prop where
 mg:mg x=some (.ref d)
 ex:∃ es n,K.lookup d=some ⟨.type "dict",none,.dict es n,#[]⟩∧PySem.W.KeysLit P es.toList
 it:sD K d l
section
variable {X:Cx} {x:Str} {d f:Addr} {l:List (Str×Addr)} {p pos:Pos} {i e:Expr} {ty:TE} {es:List Expr} {t:TA} {k j:Nat} {fd:FuncData} {ps:List Str}
def CJ (l:List (Str×Addr)) (y:V) (H:Hp) (Q:VK):Prop:=∃ k f,y=.str k∧l.lookup k=some f∧Q (.ref f) H
theorem z5 (hg:Gl X x) (D:AN X.K X.w.params X.mg x d l) (hi:PE X i ty) (hs:Eb i) (hd:(x == ("__debug__":Str))=false:=by decide):PE X (.Subscript (.Name x p) i pos) (fun σ H Q=>ty σ H fun y H1=>CJ l y H1 Q):=by
 intro pins s σ H Q I h
 refine zu PySem.F.slot_dict_getitem.lookup hs (thn (qi (v:=.ref d) hg D.mg rfl hd pins s σ H (fun v H'=>v=.ref d∧H'=H) I ⟨rfl,rfl⟩) fun u s1 ⟨v,H1,I1,rv,e1,e2⟩=>?_)
 subst e1;subst e2
 obtain rfl:u=.ref d:=rv
 refine thn (hi pins s1 σ _ _ I1 h) fun iv s2 ⟨y,H2,I2,ry,k,f,ey,el,q⟩=>?_
 subst ey
 obtain⟨t,rfl⟩:=ry
 obtain⟨es,n,lk,kl⟩:=D.ex
 have hm:=PySem.W.mapOf_K (prog:=X.prog) (w:=X.w) I2.kIn lk kl
 exact⟨hm.typeIs,wpAny_getItem_of (strKind_is X.prog X.w k t) hm (PySem.W.find_K lk (D.it.at el)) ⟨.ref f,H2,I2.tok _,rfl,q⟩⟩
theorem xB {sp:Sp} (lk:∃ oc od sl,X.K.lookup f=some ⟨oc,od,.func fd,sl⟩) (F:aM X.prog X.w X.K X.mg X.base CX0 k f fd ps sp) (hr:bO k X.A) (hb:Binds X.K fd ps []) (hN:X.N[j]?=some x) (hv:Vis X.env.scope x) (ha:PA X (e::es) t)
  (hdb:(x == ("__debug__":Str))=false:=by decide) (hcd:(x == ("__classdict__":Str))=false:=by decide) (he:starEach (e::es) X.env=(false,eval e X.env)::starEach es X.env:=by rfl) (hpl:(backTo pos (starEach es X.env)).any (·.1)=false:=by rfl) :
  PE X (.Call (.Name x p) (e::es) [] pos) (sP j f sp t):=by
 intro pins s σ H Q I ⟨h1,h2⟩
 obtain⟨oc,od,sl,lk⟩:=lk
 have fa:∀ {h:Heap},X.K.In h→PySem.W.FnAt f h:=fun {h} z=>⟨oc,od,fd,sl,z _ _ lk⟩
 refine wpAny_Call_Name_kw (thn (cL (i:=j) hN hv hdb hcd pins s σ H (fun v H'=>v=.ref f∧H'=H) I ⟨_,h1,rfl,rfl⟩) fun u s1 ⟨v,H',I1,rv,e1,e2⟩=>?_)
 subst e1;subst e2
 obtain rfl:u=.ref f:=rv
 refine PySem.W.callWith_F (fa I1.kIn) (thn (ha pos pins s1 σ _ _ I1 h2) fun us s2 ⟨vs,H2,I2,r,z⟩=>⟨fa I2.kIn,?_⟩) he hpl
 exact lD (dvs:=[]) (ds:=[]) F hr hb .nil kC I2 r (by rw[List.append_nil];exact z)
end
end L2
namespace L3
open PySem L2 PySem.Spec PyProof.Rows
section
variable {K:PySem.W.Frag} {X:Cx} {x:Str} {d f:Addr} {l:List (Str×Addr)} {p pos:Pos} {a b e:Expr} {ta tb:TE} {a3 b3:TB3} {es:List Expr} {t:TA} {t3:cq} {k j n:Nat} {fd:FuncData} {ps:List Str} {S:S3}
theorem z_ (ha:P3B K X a ta a3) (hb:P3B K X b tb b3):P3 K X (.BinOp a .BitAnd b pos) (tOp (rI0 fun i j=>.int (Builtin.bitAnd i j)) ta tb) (kz (i2' fun i j=>.int (Builtin.bitAnd i j)) a3 b3):=⟨jR Ds ha.pe hb.pe,fK (mv fun _ _ _=>rfl) ha.rf hb.rf⟩
def GY (l:List (Str×Addr)) (y:D) (Γ:G) (Q:RV→G→Prop):Prop:=∃ k f,y=.str k∧l.lookup k=some f∧Q (.fz (.adr f)) Γ
theorem uy (hg:Gl X x) (D:AN X.K X.w.params X.mg x d l) (hi:P3B K X a ta a3) (hs:Eb a:=by intro _ _;rfl) (hd:(x == ("__debug__":Str))=false:=by decide):P3 K X (.Subscript (.Name x p) a pos) (fun σ H Q=>ta σ H fun y H1=>CJ l y H1 Q) (vp (GY l) a3):=
 ⟨z5 hg D hi.pe hs hd,sV (r:=CJ l) (by
  intro B F σ H Γ x dx Q QQ e rx ⟨k,f,h1,h2,q⟩ kk
  subst h1
  cases rx
  exact⟨k,f,rfl,h2,kk _ _ (gn (d:=.adr f) e rfl q)⟩) hi.rf⟩
def ko (j n:Nat) (f:Addr) (S:S3) (t3:cq) (Γ:G) (Q:RV→G→Prop):Prop:=Γ[j]?=some (some (.fz (.adr f)))∧t3 Γ fun bs Γ1=>bs.length=n∧(eM bs).Nodup∧S (eK Γ1 (bs.map some)) fun r Γa=>Q r (bK ((bs.map some).map cn) Γ1 Γa)
theorem vC (h:pI K t t3):Ref K (sP j f (sp3 K n S) t) (ko j n f S t3):=by
 intro B F σ H Γ Q QQ e ⟨hi,qq⟩ kk
 obtain⟨y,hy,ry⟩:=e.fz j _ hi
 obtain rfl:y=.ref f:=ry
 refine⟨hy,h B F σ H Γ _ _ e qq fun vs H1 ⟨F1,Γ1,bs,s1,e1,r1,hn,nd,q1⟩=>?_⟩
 refine⟨by rw[r1.length];exact hn,F1,_,_,_,e1.args r1 nd,mM,q1,fun r Γa q v H' F' e2 rv=>?_⟩
 obtain⟨a,b,c⟩:=e1.called e2 rv
 exact kk v H' ⟨F',_,r,s1.trans a,b,c,q⟩
theorem cP {y q:Str} {st:Stmt} (Fn:Fun X.K y q st f fd) (F:aM X.prog X.w X.K X.mg X.base CX0 k f fd ps (sp3 K n S)) (hr:bO k X.A) (hb:Binds X.K fd ps []) (hN:X.N[j]?=some x) (hv:Vis X.env.scope x) (ha:oy K X (e::es) t t3)
  (hdb:(x == ("__debug__":Str))=false:=by decide) (hcd:(x == ("__classdict__":Str))=false:=by decide) (he:starEach (e::es) X.env=(false,eval e X.env)::starEach es X.env:=by rfl) (hpl:(backTo pos (starEach es X.env)).any (·.1)=false:=by rfl) :
  P3 K X (.Call (.Name x p) (e::es) [] pos) (sP j f (sp3 K n S) t) (ko j n f S t3):=⟨xB (by obtain⟨oc,od,_,_,_,_,_,_,sl,_,lk,_⟩:=Fn.ex;exact⟨oc,od,sl,lk⟩) F hr hb hN hv ha.pe hdb hcd he hpl,vC ha.rf⟩
end
end L3
namespace L2
open PySem PySem.Spec PyProof.Rows
section
variable {prog:Program} {w:World} {A:Around} {E:Value→Shared→Prop} {s:Shared} {z TI TO i1 i2 i3 l1 l2 l3:Addr} {k:Nat} {xs ys zs:Array Value}
end
end L2
namespace L2
open PySem PySem.Spec PyProof.Rows
section
variable {prog:Program} {w:World} {A:Around} {E:Value→Shared→Prop} {s:Shared} {z TI TO i1 i2 i3 l1 l2 l3:Addr} {k:Nat} {xs ys zs:Array Value}
end
end L2
namespace L2
open PySem PySem.Spec PyProof.Rows
section
variable {prog:Program} {w:World} {A:Around} {E:Value→Shared→Prop} {s:Shared} {z TI TO i1 i2 i3 l1 l2 l3:Addr} {k:Nat} {xs ys zs:Array Value}
end
end L2
namespace L2
open PySem PySem.Spec PyProof.Rows
section
variable {X:Cx} {pins:List (Addr×Obj)} {σ:St} {H:Hp} {s:Shared}
end
end L2
namespace L3
open PySem L2 PySem.Spec PyProof.Rows
section
variable {K:PySem.W.Frag} {X:Cx} {F H:Hp} {a b c:Expr} {ta:TA} {t3:cq} {p p2 pos pos2:Pos}
end
end L3
namespace L3
open PySem L2 PySem.Spec PyProof.Rows
section
variable {K:PySem.W.Frag} {X:Cx} {F F' F0:Hp} {σ σ':L2.St} {H H' H0:Hp} {Γ Γ':G} {pos:Pos} {i:Nat} {p:Addr} {qs own:List Addr} {xss:NB} {B:Bs}
variable {st:Stmt} {rest ss:List Stmt} {t u:TS} {n3 m3:TNB}
end
end L3
namespace L3
open PySem L2 PySem.Spec PyProof.Rows
section
variable {K:PySem.W.Frag} {X:Cx} {F F' F0:Hp} {σ σ':L2.St} {H H' H0:Hp} {Γ Γ':G} {pos:Pos} {i:Nat} {p:Addr} {qs own:List Addr} {xss:NB} {B:Bs}
variable {st:Stmt} {rest ss:List Stmt} {t u:TS} {n3 m3:TNB}
end
end L3
namespace L3
open PySem L2 PySem.Spec PyProof.Rows
section
variable {K:PySem.W.Frag} {X:Cx} {pos:Pos} {i j l:Nat} {y:Str} {px p2:Pos} {o k e:Expr} {to te:TE} {e3:TE3} {B:Bs} {F:Hp} {σ:L2.St} {H:Hp} {Γ:G}
end
end L3
namespace L2
open PySem PySem.Spec PyProof.Rows
abbrev Ris (xs:Array Nat):Prop:=xs.toList.Pairwise (· < ·)
theorem Ris.lt {xs:Array Nat} (h:Ris xs) {i k a b:Nat} (hk:i < k) (ha:xs[i]?=some a) (hb:xs[k]?=some b):a < b:=by
 rw[← Array.getElem?_toList] at ha hb
 obtain⟨hi,rfl⟩:=List.getElem?_eq_some_iff.mp ha
 obtain⟨hj,rfl⟩:=List.getElem?_eq_some_iff.mp hb
 exact List.pairwise_iff_getElem.mp h i k hi hj hk
theorem n4 {xs:Array Nat} (h:Ris xs) (j:Nat):∀ fuel lo hi,hi - lo≤fuel→lo≤hi→hi≤xs.size→(∀ i a,i < lo→xs[i]?=some a→a < j)→(∀ i a,hi≤i→xs[i]?=some a→j≤a)→
  SetTable.below.go xs j fuel lo hi≤xs.size∧(∀ i a,i < SetTable.below.go xs j fuel lo hi→xs[i]?=some a→a < j)∧∀ i a,SetTable.below.go xs j fuel lo hi≤i→xs[i]?=some a→j≤a
 | 0,lo,hi,hf,hl,hh,h1,h2=>by
  have e:lo=hi:=by omega
  subst e
  exact⟨hh,h1,h2⟩
 | fuel + 1,lo,hi,hf,hl,hh,h1,h2=>by
  unfold SetTable.below.go
  by_cases hlt:lo < hi
  ·rw[if_pos hlt]
   dsimp only
   have hm:(lo + hi) / 2 < xs.size:=by omega
   have eg:xs[(lo + hi) / 2]?=some xs[(lo + hi) / 2]:=Array.getElem?_eq_getElem hm
   have ed:xs.getD ((lo + hi) / 2) j=xs[(lo + hi) / 2]:=by rw[Array.getD_eq_getD_getElem?,eg];rfl
   rw[ed]
   by_cases hc:xs[(lo + hi) / 2] < j
   ·rw[if_pos hc]
    refine n4 h j fuel _ _ (by omega) (by omega) hh (fun i a hi' ha=>?_) h2
    rcases Nat.lt_or_eq_of_le (show i≤(lo + hi) / 2 by omega) with z | z
    ·exact Nat.lt_trans (h.lt z ha eg) hc
    ·subst z;rw[eg] at ha;cases ha;exact hc
   ·rw[if_neg hc]
    refine n4 h j fuel _ _ (by omega) (by omega) (by omega) h1 (fun i a hi' ha=>?_)
    rcases Nat.lt_or_eq_of_le hi' with z | z
    ·have:=h.lt z eg ha;omega
    ·subst z;rw[eg] at ha;cases ha;omega
  ·rw[if_neg hlt]
   have e:lo=hi:=by omega
   subst e
   exact⟨hh,h1,h2⟩
theorem kr {xs:Array Nat} (h:Ris xs) (j:Nat):SetTable.below xs j≤xs.size∧(∀ i a,i < SetTable.below xs j→xs[i]?=some a→a < j)∧∀ i a,SetTable.below xs j≤i→xs[i]?=some a→j≤a:=
 n4 h j xs.size 0 xs.size (by omega) (by omega) (Nat.le_refl _) (fun i a hi=>by omega) fun i a hi ha=>by
  have:=(Array.getElem?_eq_some_iff.mp ha).1;omega
def frm (xs:Array Nat):Nat→Nat
 | 0=>0
 | i + 1=>xs.getD i 0 + 1
theorem wj {xs:Array Nat} (h:Ris xs) {i:Nat} (hi:i≤xs.size):SetTable.below xs (frm xs i)=i:=by
 obtain⟨h1,h2,h3⟩:=kr h (frm xs i)
 generalize SetTable.below xs (frm xs i)=p at *
 rcases Nat.lt_trichotomy p i with z | z | z
 ·exfalso
  cases i with
  | zero=>omega
  | succ i=>
   have e:xs[i]?=some xs[i]:=Array.getElem?_eq_getElem (by omega)
   have:=h3 i _ (by omega) e
   simp only[frm,Array.getD_eq_getD_getElem?,e,Option.getD_some] at this
   omega
 ·exact z
 ·exfalso
  have e:xs[i]?=some xs[i]:=Array.getElem?_eq_getElem (by omega)
  have q:=h2 i _ z e
  cases i with
  | zero=>simp only[frm] at q;omega
  | succ i=>
   have e':xs[i]?=some xs[i]:=Array.getElem?_eq_getElem (by omega)
   simp only[frm,Array.getD_eq_getD_getElem?,e',Option.getD_some] at q
   have:=h.lt (Nat.lt_succ_self i) e' e
   omega
theorem sT {xs:Array Nat} (h:Ris xs) {j:Nat} (hj:j∉xs.toList):Ris (SetTable.insertAt xs (SetTable.below xs j) j):=by
 obtain⟨h1,h2,h3⟩:=kr h j
 generalize SetTable.below xs j=p at *
 show (SetTable.insertAt xs p j).toList.Pairwise _
 rw[SetTable.toList_insertAt]
 have hs:(xs.toList.take p++xs.toList.drop p).Pairwise (· < ·):=by rw[List.take_append_drop];exact h
 obtain⟨a1,a2,a3⟩:=List.pairwise_append.mp hs
 have lo:∀ a∈xs.toList.take p,a < j:=fun a ha=>by
  obtain⟨i,hi,rfl⟩:=List.getElem_of_mem ha
  have hi':=hi
  rw[List.length_take] at hi'
  refine h2 i _ (by omega) ?_
  rw[← Array.getElem?_toList,List.getElem_take]
  exact List.getElem?_eq_getElem (by omega)
 have up:∀ a∈xs.toList.drop p,j < a:=fun a ha=>by
  obtain⟨i,hi,rfl⟩:=List.getElem_of_mem ha
  have hi':=hi
  rw[List.length_drop] at hi'
  have m:xs.toList[p + i]?=some ((xs.toList.drop p)[i]):=by rw[List.getElem_drop];exact List.getElem?_eq_getElem (by omega)
  rcases Nat.lt_or_eq_of_le (h3 (p + i) _ (by omega) (by rw[← Array.getElem?_toList];exact m)) with z | z
  ·exact z
  ·exact absurd (z ▸ List.mem_of_getElem? m) hj
 exact List.pairwise_append.mpr ⟨a1,List.pairwise_cons.mpr ⟨up,a2⟩,fun a ha b hb=>by
  rcases List.mem_cons.mp hb with rfl | hb
  ·exact lo a ha
  ·exact a3 a ha b hb⟩
structure TbI (led:Bool) (t:SetTable) (n:Nat):Prop where
 fits:t.fits n=true
 led:t.led=led
 dum:t.dummies=#[]
 ris:Ris t.place
theorem sR {t:SetTable} (hd:t.dummies=#[]) (hr:Ris t.place) {j:Nat} (h:t.slot j=.empty):j∉t.place.toList:=by
 intro hm
 obtain⟨i,hi,e⟩:=List.getElem_of_mem hm
 obtain⟨h1,h2,h3⟩:=kr hr j
 have ei:t.place[i]?=some j:=by rw[← Array.getElem?_toList,List.getElem?_eq_getElem hi,e]
 have hb:SetTable.below t.place j=i:=by
  rcases Nat.lt_trichotomy (SetTable.below t.place j) i with z | z | z
  ·have hz:SetTable.below t.place j < t.place.size:=by rw[Array.length_toList] at hi;omega
   have e':t.place[SetTable.below t.place j]?=some t.place[SetTable.below t.place j]:=Array.getElem?_eq_getElem hz
   have q1:=h3 _ _ (Nat.le_refl _) e'
   have q2:=hr.lt z e' ei
   omega
  ·exact z
  ·have:=h2 i j z ei;omega
 unfold SetTable.slot at h
 dsimp only at h
 rw[hb,ei] at h
 simp at h
theorem pW {t:SetTable} (hd:t.dummies=#[]) {j:Nat}:t.slot j≠.dummy:=by
 unfold SetTable.slot
 dsimp only
 split
 ·exact fun h=>by cases h
 ·rw[hd];simp [SetTable.has]
theorem rD {t:SetTable} (hd:t.dummies=#[]) {f:Nat→Int} {h:Int}:∀ (fuel:Nat) (p:SetTable.Probe) {j:Nat} {d:Option Nat},p.dummy=none→SetTable.probe.go t f h fuel p=some (.empty j d)→d=none∧t.slot j=.empty
 | 0,p,j,d,_,e=>by unfold SetTable.probe.go at e;cases e
 | fuel + 1,p,j,d,hp,e=>by
  have adv:∀ q:SetTable.Probe,q.dummy=none→(t.advance q).dummy=none:=fun q hq=>by
   unfold SetTable.advance
   split
   ·exact hq
   ·exact hq
  unfold SetTable.probe.go at e
  split at e
  ·rename_i hs
   cases e
   exact⟨hp,hs⟩
  ·rename_i hs
   exact absurd hs (pW hd)
  ·split at e
   ·cases e
   ·exact rD hd fuel _ (adv _ hp) e
theorem Av {t:SetTable} (hd:t.dummies=#[]) {h:Int} {j:Nat} {b:Bool} (e:t.freeSlot h=some (j,b)):b=false∧t.slot j=.empty:=by
 unfold SetTable.freeSlot at e
 split at e
 ·rename_i j' d hp
  obtain⟨rfl,hs⟩:=rD hd _ _ (by rfl) hp
  cases e
  exact⟨rfl,hs⟩
 ·cases e
theorem oH (n:Nat):Ris (Array.range n):=by
 show (Array.range n).toList.Pairwise _
 rw[Array.toList_range]
 exact List.pairwise_lt_range
theorem TbI.standIn {led:Bool} {t:SetTable} (h:t.led=led) (n:Nat):TbI led (t.standIn n) n:=⟨SetTable.standIn_fits t n,h,rfl,oH n⟩
theorem TbI.layNew {led:Bool} {t:SetTable} {es:Array (Int×Value)} (T:TbI led t es.size) (h:Int) (x:Value):TbI led (layNew t es h x).2.1 (layNew t es h x).1.size:=by
 have hf:=layNew_fits t es h x
 unfold PySem.layNew at hf ⊢
 split
 ·rename_i slot b e
  rw[e] at hf
  obtain⟨rfl,hs⟩:=Av T.dum e
  dsimp only at hf ⊢
  refine⟨hf,?_,?_,?_⟩ <;> unfold SetTable.orStandIn <;> split
  ·exact T.led
  ·exact T.led
  ·show (if SetTable.has t.dummies slot=true then _ else t.dummies)=#[]
   rw[T.dum];simp [SetTable.has]
  ·rfl
  ·exact sT T.ris (sR T.dum T.ris hs)
  ·exact oH _
 ·simpa using TbI.standIn T.led (es.size + 1)
theorem TbI.EC {led:Bool} {t:SetTable} {n:Nat} (T:TbI led t n) (es:Array (Int×Value)) (wanted:Nat):TbI led (relayAll t es wanted).2.1 (relayAll t es wanted).1.size:=by
 have hf:=relayAll_fits t es wanted
 unfold relayAll at hf ⊢
 split
 ·rename_i t' order e
  rw[e] at hf
  dsimp only at hf ⊢
  split
  ·rename_i hc
   rw[if_pos hc] at hf
   refine⟨hf,?_,?_,?_⟩ <;> (unfold SetTable.relaid SetTable.laid at e;cases ho:SetTable.layClean (SetTable.sizeAbove wanted - 1) (es.map (·.1)) with
    | none=>rw[ho] at e;cases e
    | some owner=>
     rw[ho] at e
     cases e
     first
      | exact T.led
      | rfl
      | (show List.Pairwise _ (List.map _ _);rw[List.pairwise_map,List.pairwise_filterMap];refine List.Pairwise.imp ?_ List.pairwise_lt_range;intro a b hab x hx y hy;cases h1:owner.getD a none <;> rw[h1] at hx <;> cases hx;cases h2:owner.getD b none <;> rw[h2] at hy <;> cases hy;exact hab))
  ·exact TbI.standIn T.led _
 ·exact TbI.standIn T.led _
theorem kn {α:Type}:∀ (l:List α) (i:Nat) (h:i < l.length),(l[i]::l.eraseIdx i).Perm l
 | x::r,0,_=>List.Perm.refl _
 | x::r,i + 1,h=>(List.Perm.swap x _ _).trans (List.Perm.cons x (kn r i (Nat.lt_of_succ_lt_succ h)))
theorem uu {α:Type} (nx:Nat→Nat):∀ (fuel k:Nat) (left:List α) (out:Array α),left.length=fuel→(pickOrder.go nx fuel k left out).toList.Perm (out.toList++left)
 | 0,k,left,out,h=>by
  have:left=[]:=List.length_eq_zero_iff.mp h
  subst this
  unfold pickOrder.go
  simp
 | fuel + 1,k,left,out,h=>by
  unfold pickOrder.go
  have hm:nx k % left.length < left.length:=Nat.mod_lt _ (by omega)
  rw[List.getElem?_eq_getElem hm]
  dsimp only
  refine(uu nx fuel (k + 1) _ _ (by rw[List.length_eraseIdx_of_lt hm];omega)).trans ?_
  rw[Array.toList_push,List.append_assoc]
  exact List.Perm.append_left _ (kn _ _ hm)
theorem vE {α:Type} (nx:Nat→Nat) (xs:Array α):(pickOrder nx xs).toList.Perm xs.toList:=by
 unfold pickOrder
 simpa using uu nx xs.size 0 xs.toList #[] (by simp)
theorem pO {M:Model} {A:Around} {E:Value→Shared→Prop} {s:Shared} {src:Source} {n:Nat} {Q:Nat→Shared→Prop} (hn:n≠0) (h:∀ i d,i < n→Q i { s with drawn:=d }):wpAny M A (choose src n) Q E s:=
 fun _ _ _=>⟨hn,h _ _ (Nat.mod_lt _ (Nat.pos_of_ne_zero hn))⟩
theorem pf {α:Type} {M:Model} {A:Around} {E:Value→Shared→Prop}:∀ (n:Nat) (xs:List α) {s:Shared} {Q:List α→Shared→Prop},xs.length=n→(∀ ys d,ys.Perm xs→Q ys { s with drawn:=d })→wpAny M A (drawOrder n xs) Q E s
 | 0,xs,s,Q,hl,h=>by
  have:xs=[]:=List.length_eq_zero_iff.mp hl
  subst this
  exact wpAny_pure (h [] s.drawn (List.Perm.refl _))
 | n + 1,[],s,Q,hl,h=>by simp at hl
 | n + 1,x::r,s,Q,hl,h=>by
  unfold drawOrder
  refine wpAny_bind (pO (by rw[hl];omega) fun i d hi=>?_)
  rw[List.getElem?_eq_getElem hi]
  refine wpAny_bind (pf n _ (by rw[List.length_eraseIdx_of_lt hi];omega) fun ys d' hp=>?_)
  exact wpAny_pure (h _ d' ((List.Perm.cons _ hp).trans (kn _ _ hi)))
end L2
namespace L2
open PySem PySem.Spec PyProof.Rows
def fR (w:World):Bool:=w.params.followText "set-order"
abbrev bJ (es:Array (Int×Value)) (ep:Nat) (t:SetTable):Obj:={ cls:=.type "set",dict:=none,data:=.set es ep t,slots:=#[] }
section
variable {prog:Program} {w:World} {A:Around} {E:Value→Shared→Prop} {s:Shared} {a:Addr}
def ElI (es:List (Int×Value)):Prop:=∀ e∈es,∃ k tk,e=((intKind prog w).hash k,Value.int k tk)
def kx (prog:Program) (w:World) (h:Heap) (a:Addr) (ns:List Int):Prop:=
 ∃ es ep t,h.get? a=some (bJ es ep t)∧ElI (prog:=prog) (w:=w) es.toList∧ns=es.toList.map (fun e=>numOf e.2)∧ns.Nodup∧TbI (!fR w) t es.size
theorem ElI.of {es:List (Int×Value)} (h:ElI (prog:=prog) (w:=w) es):ElemsOf (intKind prog w) es:=fun e he=>by
 obtain⟨k,tk,rfl⟩:=h e he
 exact⟨⟨k,intKind_is prog w k tk,rfl⟩,rfl⟩
theorem xh {h:Heap} {es es':Array (Int×Value)} {ep:Nat} {t t':SetTable} (ho:h.get? a=some (bJ es ep t)):(h.update a (Obj.putSet es' t')).get? a=some (bJ es' (ep + 1) t'):=by
 rw[Heap.get?_update_self _ ho rfl];rfl
theorem yd {k m:Int} {tk:Tok}:(intKind prog w).is k (.int m tk)=true↔m=k:=by
 constructor
 ·intro h
  exact(intKind prog w).inj _ _ _ (intKind_is prog w m tk) h
 ·rintro rfl;exact intKind_is prog w m tk
theorem q_ {k:Int} {es:List (Int×Value)} (h:ElI (prog:=prog) (w:=w) es):(∃ e∈es,(intKind prog w).is k e.2=true)↔k∈es.map (fun e=>numOf e.2):=by
 rw[List.mem_map]
 constructor
 ·rintro⟨e,he,q⟩
  obtain⟨m,tk,rfl⟩:=h e he
  exact⟨_,he,yd.mp q⟩
 ·rintro⟨e,he,q⟩
  refine⟨e,he,?_⟩
  obtain⟨m,tk,rfl⟩:=h e he
  exact yd.mpr q
set_option maxHeartbeats 1000000 in
theorem add_int {ns:List Int} {k:Int} {tk:Tok} {Q:Bool→Shared→Prop} (S:kx prog w s.heap a ns) (hr:ns.length + 1 < scanBound)
  (h:∀ b h' ns',Heap.SameBut a s.heap h'→kx prog w h' a ns'→(∀ m,m∈ns'↔m∈ns∨m=k)→ns'.length≤ns.length + 1→Q b { s with heap:=h',toks:=s.toks + 1 }) :
  wpAny (model prog w) A (setAdd a (.int k tk)) Q E s:=by
 obtain⟨es,ep,t,ho,hel,rfl,nd,T⟩:=id S
 have hz:(es.toList.map (fun e=>numOf e.2)).length=es.size:=by simp
 rw[hz] at hr
 have hkey:=intKind_is prog w k tk
 unfold setAdd
 refine wpAny_holding (wpAny_bind ((intKind prog w).pyHash hkey ?_))
 unfold setAddHashed setAddHashedIn
 refine wpAny_holding (wpAny_bind (wpAny_setState_of (s:={ s with toks:=s.toks + 1 }) ho rfl T.fits ?_))
 dsimp only
 rw[byScan_of rfl (by omega) hel.of]
 simp only[if_true]
 unfold setAddByScan
 refine wpAny_bind (wpAny_bind (wpAny_rule (wpAny_bind (wpAny_setScan_of (s:={ s with toks:=s.toks + 1 }) hkey ho rfl T.fits hel.of ?_))))
 cases hf:List.findIdx? (fun e=>(intKind prog w).is k e.2) es.toList with
 | some j=>
  dsimp only
  obtain⟨hj,hp,_⟩:=List.findIdx?_eq_some_iff_getElem.mp hf
  have hm:=(q_ hel).mp ⟨_,List.getElem_mem hj,hp⟩
  exact wpAny_pure (wpAny_pure (h _ s.heap _ (Heap.SameBut.refl a s.heap) S (fun m=>⟨.inl,fun q=>q.elim id fun e=>e ▸ hm⟩) (Nat.le_succ _)))
 | none=>
  dsimp only
  have hnm:k∉es.toList.map (fun e=>numOf e.2):=fun hm=>by
   obtain⟨e,he,q⟩:=(q_ hel).mpr hm
   have:=List.findIdx?_eq_none_iff.mp hf e he
   rw[q] at this;cases this
  have pm:=layNew_perm t es ((intKind prog w).hash k) (.int k tk)
  have T1:=T.layNew ((intKind prog w).hash k) (.int k tk)
  generalize hL:layNew t es ((intKind prog w).hash k) (.int k tk)=L at pm T1 ⊢
  obtain⟨es1,t1,wd,gv⟩:=L
  dsimp only at pm T1 ⊢
  rw[Array.toList_push] at pm
  have key:∀ (es2:Array (Int×Value)) (t2:SetTable) (h':Heap) (ep':Nat),es2.toList.Perm (es.toList++[((intKind prog w).hash k,Value.int k tk)])→TbI (!fR w) t2 es2.size→h'.get? a=some (bJ es2 ep' t2)→Heap.SameBut a s.heap h'→Q true { s with heap:=h',toks:=s.toks + 1 }:=fun es2 t2 h' ep' p2 T2 g sb=>by
   have pn:(es2.toList.map (fun e=>numOf e.2)).Perm (es.toList.map (fun e=>numOf e.2)++[k]):=by
    have:=p2.map (fun e=>numOf e.2)
    rw[List.map_append] at this
    exact this
   refine h true h' (es2.toList.map (fun e=>numOf e.2)) sb ⟨es2,ep',t2,g,fun e he=>?_,rfl,?_,T2⟩ (fun m=>?_) ?_
   ·rcases List.mem_append.mp (p2.mem_iff.mp he) with z | z
    ·exact hel e z
    ·rw[List.mem_singleton] at z;exact⟨k,tk,z⟩
   ·refine pn.nodup_iff.mpr (List.nodup_append.mpr ⟨nd,by simp,fun x hx y hy e=>?_⟩)
    rw[List.mem_singleton] at hy
    exact hnm (hy ▸ e ▸ hx)
   ·rw[pn.mem_iff,List.mem_append,List.mem_singleton]
   ·rw[pn.length_eq,List.length_append];exact Nat.le_refl _
  have gw:∀ (b:Bool) {s1:Shared} {R:Unit→Shared→Prop},R () s1→wpAny (model prog w) A (match b with | true=>rule "set.scan.the-table-gave-way" | false=>pure ()) R E s1:=fun b s1 R q=>by
   cases b
   ·exact wpAny_pure q
   ·exact wpAny_rule q
  have sz1:es1.size=es.size + 1:=by have:=pm.length_eq;simpa using this
  have fit:es1.size≤sizeLine:=fits_of_scanBound (by omega)
  refine wpAny_bind (gw gv ?_)
  have rest:∀ {P:Option Bool→Shared→Prop},(∀ h' ep' es2 t2,es2.toList.Perm es1.toList→TbI (!fR w) t2 es2.size→h'.get? a=some (bJ es2 ep' t2)→Heap.SameBut a s.heap h'→P (some true) { s with heap:=h',toks:=s.toks + 1 })→
    wpAny (model prog w) A (do
     storeSet a es1 t1
     if (!wd && t1.tooFull)=true then do
      (match (relayAll t1 es1 (SetTable.grown es1.size)).2.2 with | true=>rule "set.scan.the-table-gave-way" | false=>pure ())
      storeSet a (relayAll t1 es1 (SetTable.grown es1.size)).1 (relayAll t1 es1 (SetTable.grown es1.size)).2.1
      pure (some true)
     else pure (some true)) P E { s with toks:=s.toks + 1 }:=fun {P} hP=>by
   refine wpAny_bind (wpAny_storeSet_of (s:={ s with toks:=s.toks + 1 }) ho rfl ?_ fit)
   have g1:(s.heap.update a (Obj.putSet es1 t1)).get? a=some (bJ es1 (ep + 1) t1):=xh ho
   have b1:=Heap.SameBut.update s.heap a (Obj.putSet es1 t1)
   split
   ·have p2:=relayAll_perm t1 es1 (SetTable.grown es1.size)
    have T2:=T1.EC es1 (SetTable.grown es1.size)
    generalize relayAll t1 es1 (SetTable.grown es1.size)=R2 at p2 T2 ⊢
    obtain⟨es2,t2,g2⟩:=R2
    dsimp only at p2 T2 ⊢
    have sz2:es2.size=es1.size:=by have:=p2.length_eq;simpa using this
    refine wpAny_bind (gw g2 (wpAny_bind (wpAny_storeSet_of (s:={ s with heap:=s.heap.update a (Obj.putSet es1 t1),toks:=s.toks + 1 }) g1 rfl (wpAny_pure ?_) (by omega))))
    exact hP _ _ _ _ p2 T2 (xh g1) (b1.trans (Heap.SameBut.update _ a _))
   ·exact wpAny_pure (hP _ _ _ _ (List.Perm.refl _) T1 g1 b1)
  split
  ·refine wpAny_bind ?_
   rw[hashByValue_scannable 8 (by rfl)]
   refine wpAny_pure ?_
   simp only[plainKind,if_true]
   exact rest fun h1 e1 es2 t2 p2 T2 g sb=>wpAny_pure (key es2 t2 h1 e1 (p2.trans pm) T2 g sb)
  ·refine wpAny_bind (wpAny_pure ?_)
   simp only[if_true]
   exact rest fun h1 e1 es2 t2 p2 T2 g sb=>wpAny_pure (key es2 t2 h1 e1 (p2.trans pm) T2 g sb)
end
end L2
namespace L2
open PySem PySem.Spec PyProof.Rows
section
variable {prog:Program} {w:World} {A:Around} {E:Value→Shared→Prop} {s:Shared} {a:Addr}
theorem kx.at {h h':Heap} {ns:List Int} (S:kx prog w h a ns) (k:∀ o,h.get? a=some o→h'.get? a=some o):kx prog w h' a ns:=by
 obtain⟨es,ep,t,ho,r⟩:=S
 exact⟨es,ep,t,k _ ho,r⟩
theorem wX {h:Heap} (ho:h.get? a=some (bJ #[] 0 (.fresh 0 0 (!fR w)))):kx prog w h a []:=
 ⟨#[],0,_,ho,fun e he=>by simp at he,rfl,List.nodup_nil,⟨rfl,rfl,rfl,List.Pairwise.nil⟩⟩
abbrev Gp (prog:Program) (w:World) (s:Shared) (a I:Addr) (ns:List Int) (P:Shared→Prop):Prop:=∀ h' t' ms,(∀ b o,b≠a→b≠I→s.heap.get? b=some o→h'.get? b=some o)→kx prog w h' a ms→(∀ m,m∈ms↔m∈ns)→ms.length≤ns.length→P { s with heap:=h',toks:=t' }
theorem wG {R:Result→Shared→Prop} {I l:Addr} {vs:List Value} {ns:List Int} (hh:A.handled=none) (hi:IntsAre vs ns) (aI:a≠I) (lI:l≠I) (la:l≠a) (hb:ns.length + 1 < scanBound) :
  ∀ (k i:Nat) (s:Shared) (ms:List Int),ns.length - i=k→i≤ns.length→s.heap.IsListIter I l i→s.heap.IsList l vs.toArray→kx prog w s.heap a ms→(∀ m,m∈ms↔m∈ns.take i)→ms.length≤i→Gp prog w s a I ns (fun s'=>R (.ok (.ret .none)) s')→
   codeAny (model prog w) A (.builtin "set.update.loop" ⟨[.ref a,.ref I],[]⟩) R s:=by
 have hl:vs.length=ns.length:=IntsAre.length hi
 intro k
 induction k with
 | zero=>
  intro i s ms hk hn ji jl S hm hz q
  obtain rfl:i=ns.length:=by omega
  refine codeAny_builtin F.entry_set_update_loop ?_
  rw[Around.under_plainId F.plain_set_update_loop _]
  show wpAny _ A.in1 (pyNext (.ref I) >>= fun r=>_) _ _ s
  refine wpAny_bind (wpAny_pyNext_list_end (by simp [hh]) ji jl (by simp [hl]) fun h' x=>?_)
  exact wpAny_pure (q h' s.toks ms (fun b o _ n e=>x b o n e) (S.at fun o e=>x a o aI e) (fun m=>by rw[hm,List.take_length]) hz)
 | succ k ih=>
  intro i s ms hk hn ji jl S hm hz q
  refine codeAny_builtin F.entry_set_update_loop ?_
  rw[Around.under_plainId F.plain_set_update_loop _]
  show wpAny _ A.in1 (pyNext (.ref I) >>= fun r=>_) _ _ s
  have hx:vs[i]?=some (vs[i]'(by omega)):=List.getElem?_eq_getElem (by omega)
  obtain⟨n,t,e,en⟩:=hi.at i _ hx
  rw[e] at hx
  refine wpAny_bind (wpAny_pyNext_list_item (x:=.int n t) ji jl (by simpa using hx) fun h1 j1 sb=>?_)
  show wpAny _ A.in1 (holding [Value.int n t] (setAdd a (.int n t)) >>= fun r=>_) _ _ _
  refine wpAny_bind (wpAny_holding (add_int (s:={ s with heap:=h1 }) (S.at fun o e=>sb.extBut _ _ aI e) (by omega) fun b h2 ms2 sb2 S2 hm2 hz2=>?_))
  refine wpAny_pure ⟨plainId_quiet F.plain_set_update_loop _,ih (i + 1) _ ms2 (by omega) (by omega) (j1.extBut sb2.extBut aI.symm) ((jl.extBut sb.extBut lI).extBut sb2.extBut la) S2 (fun m=>?_) (by omega) fun h' t' ms' kk S' hm' hz'=>?_⟩
  ·rw[hm2,hm,List.take_succ,en,Option.toList_some,List.mem_append,List.mem_singleton]
  ·exact q h' t' ms' (fun b o n1 n2 e=>kk b o n1 n2 (sb2.extBut _ _ n1 (sb.extBut _ _ n2 e))) S' hm' hz'
theorem xV (x:Value) {Q:Value→Shared→Prop} (h:Q (.ref s.heap.objs.size) { s with heap:=s.heap.push (bJ #[] 0 (.fresh 0 0 (!fR w))) }) :
  codeAny (model prog w) A (.call (.builtin "set.__new__") ⟨[.type "set",x],[]⟩) (wants Q E) s:=by
 refine codeAny_call_builtin F.plain_set_new F.entry_set_new (wpAny_of_eq (F.newCall_set_1 x) ?_)
 unfold Builtin.«set.__new__» Builtin.Frozenset.newClass
 have sub:=sub_set_self
 obtain⟨hp,g,d,tk,os⟩:=s
 dsimp only
 wp_walk
 refine wpAny_askSetting (wpAny_pure ?_)
 dsimp only
 simp only[newObj]
 refine wpAny_bind (wpAny_alloc (wpAny_pure ?_))
 exact wpAny_pure h
set_option maxHeartbeats 3200000 in
theorem vY {S l:Addr} {vs:List Value} {ns:List Int} {R:Result→Shared→Prop} {Y:Value→Shared→Prop} (hh:A.handled=none) (hS:s.heap.get? S=some (bJ #[] 0 (.fresh 0 0 (!fR w)))) (hl:s.heap.IsList l vs.toArray) (hi:IntsAre vs ns) (hb:ns.length + 1 < scanBound) (hn:l≠S)
  (q:Gp prog w s S s.heap.objs.size ns (fun s'=>R (.ok (.ret .none)) s')) :
  wpAny (model prog w) A.in1 (Builtin.«set.__init__» ⟨[.ref S,.ref l],[]⟩) (fun fin s'=>match fin with | .done f=>R (.ok f) s' | .again c=>c.quiet=true∧codeAny (model prog w) A c R s') Y s:=by
 have ls:l < s.heap.objs.size:=let ⟨o,e,_⟩:=hl;Heap.lt_size e
 have ss:S < s.heap.objs.size:=Heap.lt_size hS
 obtain⟨ol,hol,hcl,nl,hdl⟩:=id hl
 obtain⟨c1,d1,a1,s1⟩:=ol
 dsimp only at hcl hdl
 subst hcl;subst hdl
 have z1:=F.sub_list_set
 have z2:=F.sub_list_frozenset
 have z3:(Value.type "list" == Value.type "dict")=false:=by decide
 unfold Builtin.«set.__init__» noKeywords Builtin.Frozenset.updateFrom
 generalize hP:pyIter=P
 wp_walk
 subst hP
 refine wpAny_pyIter_list hl (wpAny_bind (wpAny_runValue ?_))
 refine wG (by simp [hh]) hi (Nat.ne_of_lt ss) (Nat.ne_of_lt ls) hn hb _ 0 _ [] rfl (Nat.zero_le _) ⟨_,Heap.get?_push_size _ rfl,rfl,rfl⟩ (hl.push _) (wX (Heap.get?_push_of_some _ hS)) (fun m=>by simp) (Nat.zero_le _) fun h' t' ms k S' hm hz=>?_
 exact wpAny_pure (wpAny_pure <| q h' t' ms (fun b o n1 n2 e=>k b o n1 n2 (Heap.get?_push_of_some _ e)) S' hm hz)
end
end L2
namespace L2
open PySem PySem.Spec PyProof.Rows
theorem kB:Slot "set_iterator" "__next__" "set_iterator.__next__":=
 .of (owner:="set_iterator") (n:="__next__") (by rw[typeLookup_type,builtinLookup_eq_fast];kernel_rfl) (by decide +kernel) (by decide +kernel) (by decide +kernel) (by first | exact .inl (by decide +kernel) | exact .inr (by decide +kernel)) (by rw[isSubtype_type];kernel_rfl)
theorem q9:entryFor table "set_iterator.__next__"=some Builtin.«set_iterator.__next__»:=entryFor_of_tree (by kernel_rfl)
theorem ud (a:Value):argsOk "set_iterator.__next__" ⟨[a],[]⟩:=by unfold argsOk;kernel_rfl
theorem zv:entryFor table "set.__iter__"=some Builtin.«frozenset.__iter__»:=entryFor_alias (id':="frozenset.__iter__") (by kernel_rfl) rfl (by decide +kernel) (by kernel_rfl)
def dr (t:SetTable) (n:Nat):Bool:=!t.plain && decide (n > 1)
section
variable {prog:Program} {w:World} {A:Around} {E:Value→Shared→Prop} {s:Shared} {a I:Addr} {es:Array (Int×Value)} {ep:Nat} {t:SetTable}
theorem vw {Q:Bool→Shared→Prop} (ho:s.heap.get? a=some (bJ es ep t)) (hf:t.fits es.size=true) (h:Q (!fR w && dr t es.size) s):wpAny (model prog w) A (setDrawn a) Q E s:=by
 unfold setDrawn setsByText
 exact wpAny_bind (wpAny_setState_of ho rfl hf (wpAny_bind (wpAny_bind (wpAny_askSetting (wpAny_pure (wpAny_pure h))))))
abbrev mY (x0:Value) (i:Nat) (x2:Value) (n ep:Nat):Obj:={ cls:=.type "set_iterator",dict:=none,data:=.fields #[x0,.int i 0,x2,.int n 0,.int ep 0],slots:=#[] }
theorem mV {Y:Fin→Shared→Prop} (hh:A.handled=none) (hY:∀ h' e,(∀ b o,s.heap.get? b=some o→h'.get? b=some o)→(∃ o,h'.get? e=some o∧o.cls=.type "StopIteration")→E (.ref e) { s with heap:=h' }) :
  wpAny (model prog w) A (newExc (.type "StopIteration") [] >>= fun e=>raiseNew e) Y E s:=by
 refine wpAny_bind ?_
 simp only[newExc,newTuple]
 refine wpAny_bind (wpAny_newObj_type ?_ (by size_fits))
 refine wpAny_bind (m:=firstArgMember _ _) (wpAny_of_eq (a:=Value.none) (by first | rfl | (simp only[firstArgMember];rfl)) (wpAny_newObj_type ?_ (by size_fits)))
 simp only[raiseNew]
 refine wpAny_bind (wpAny_handled ?_)
 rw[hh]
 refine wpAny_bind (wpAny_pure (wpAny_throw ?_))
 exact hY _ _ (fun b o e=>Heap.get?_push_of_some _ (Heap.get?_push_of_some _ e)) ⟨_,Heap.get?_push_size _ rfl,rfl⟩
theorem pY {x0 y0:Value} {i n:Nat} {x:Value} {Q:Option Value→Shared→Prop} (hI:s.heap.get? I=some (mY x0 i (.ref a) n ep))
  (body:∀ Y:Value→Shared→Prop,wpAny (model prog w) A.in1 (Builtin.«set_iterator.__next__» ⟨[.ref I],[]⟩) (fun fin s'=>∃ v,fin=.done (.ret v)∧(v=x∧∃ h',s'={ s with heap:=h' }∧h'.get? I=some (mY y0 (i + 1) (.ref a) n ep)∧Heap.SameBut I s.heap h')) Y s)
  (q:∀ h',h'.get? I=some (mY y0 (i + 1) (.ref a) n ep)→Heap.SameBut I s.heap h'→Q (some x) { s with heap:=h' }):wpAny (model prog w) A (pyNext (.ref I)) Q E s:=by
 unfold pyNext
 have hT:s.TypeIs (.ref I) "set_iterator":=⟨_,hI,rfl⟩
 refine wpAny_bind (wpAny_attempt (wpAny_callSpecial?_slot (name:=Str.ofString "__next__") hT kB (wpAny_call_entry kB hT q9 (thn (body _) fun fin s' ⟨v,e,ev,h',es',g,sb⟩=>⟨v,e,?_⟩) (ud _))))
 subst ev;subst es'
 exact wpAny_pure (q h' g sb)
theorem pZ {x0:Value} {i n:Nat} {Q:Option Value→Shared→Prop} (hI:s.heap.get? I=some (mY x0 i (.ref a) n ep))
  (body:∀ (P:Fin→Shared→Prop) (Y:Value→Shared→Prop),(∀ h' e,Heap.ExtBut I s.heap h'→(∃ o,h'.get? e=some o∧o.cls=.type "StopIteration")→Y (.ref e) { s with heap:=h' })→wpAny (model prog w) A.in1 (Builtin.«set_iterator.__next__» ⟨[.ref I],[]⟩) P Y s)
  (q:∀ h',Heap.ExtBut I s.heap h'→Q none { s with heap:=h' }):wpAny (model prog w) A (pyNext (.ref I)) Q E s:=by
 unfold pyNext
 have hT:s.TypeIs (.ref I) "set_iterator":=⟨_,hI,rfl⟩
 refine wpAny_bind (wpAny_attempt (wpAny_callSpecial?_slot (name:=Str.ofString "__next__") hT kB (wpAny_call_entry kB hT q9 (body _ _ fun h' e x ⟨o,ho,hc⟩=>?_) (ud _))))
 exact wpAny_bind (wpAny_isInstance (T:="StopIteration") (b:=true) ⟨o,ho,hc⟩ isSubtype_stop (wpAny_pure (q _ x)))
theorem jA {x0:Value} {i:Nat} {P:Fin→Shared→Prop} {Y:Value→Shared→Prop} {B:Value→Sem Fin} (hI:s.heap.get? I=some (mY x0 i (.ref a) es.size ep)) (ho:s.heap.get? a=some (bJ es ep t)) (hf:t.fits es.size=true)
  (h:wpAny (model prog w) A (if let .int slot _:=x0 then (do
    match ← setNext a slot.toNat i ep with
    | some (x,next)=>
     setField (.ref I) 0 (rawInt next)
     setField (.ref I) 1 (rawInt ((i:Int) + 1))
     ret x
    | none=>setField (.ref I) 2 .none;raiseNew (← newExc (.type "StopIteration") [])) else (do
    let some places ← seqItems? x0 | unsupported "internal:set_iterator"
    match places[i]? with
    | some (.int place _)=>
     let x ← setNextDrawn a place.toNat ep
     setField (.ref I) 1 (rawInt ((i:Int) + 1))
     ret x
    | some _=>unsupported "internal:set_iterator"
    | none=>setField (.ref I) 0 (rawInt 0);setField (.ref I) 2 .none;raiseNew (← newExc (.type "StopIteration") []))) P Y s) :
  wpAny (model prog w) A (Builtin.«set_iterator.__next__» ⟨[.ref I],[]⟩) P Y s:=by
 unfold Builtin.«set_iterator.__next__»
 refine wpAny_bind (m:=slotArgs _ _ _) (wpAny_pure ?_)
 refine wpAny_bind (wpAny_fieldsOf hI rfl ?_)
 dsimp only
 refine wpAny_bind (wpAny_setEntries_of ho rfl hf ?_)
 have e0:((es.size:Int) != (es.size:Int))=false:=by simp
 rw[e0]
 simp only[Bool.false_eq_true,if_false,Int.toNat_natCast]
 exact h
end
end L2
namespace L2
open PySem PySem.Spec PyProof.Rows
section
variable {prog:Program} {w:World} {A:Around} {E:Value→Shared→Prop} {s:Shared} {a I:Addr} {es:Array (Int×Value)} {ep:Nat} {t:SetTable}
theorem oX {Q:Option (Value×Nat)→Shared→Prop} {j i:Nat} (hw:fR w=true) (ho:s.heap.get? a=some (bJ es ep t)) (hf:t.fits es.size=true)
  (h:Q (((pickOrder (w.params.setOrder a ep) es)[i]?).map fun e=>(e.2,j)) s):wpAny (model prog w) A (setNext a j i ep) Q E s:=by
 unfold setNext setsByText
 refine wpAny_bind (wpAny_setState_of ho rfl hf (wpAny_bind (wpAny_bind (wpAny_askSetting (wpAny_pure ?_)))))
 have hw':(⟨(model prog w).prog,(model prog w).w.params⟩:Setting).params.followText "set-order"=true:=hw
 rw[hw']
 have e0:(ep != ep)=false:=by simp
 simp only[if_true,e0,Bool.false_eq_true,if_false]
 unfold setWalk setsByText
 refine wpAny_bind (wpAny_bind (wpAny_setState_of ho rfl hf (wpAny_bind (wpAny_bind (wpAny_askSetting (wpAny_pure ?_))))))
 rw[hw']
 simp only[if_true]
 exact wpAny_bind (wpAny_askSetting (wpAny_pure (wpAny_pure h)))
theorem nC {Q:Option (Value×Nat)→Shared→Prop} {i:Nat} (hw:fR w=false) (hd:dr t es.size=false) (ho:s.heap.get? a=some (bJ es ep t)) (T:TbI (!fR w) t es.size) (hi:i≤es.size)
  (h:Q ((es[i]?).map fun e=>(e.2,frm t.place (i + 1))) s):wpAny (model prog w) A (setNext a (frm t.place i) i ep) Q E s:=by
 have hz:t.place.size=es.size:=by have:=T.fits;simp only[SetTable.fits,Bool.and_eq_true,beq_iff_eq] at this;exact this.1
 unfold setNext setsByText
 refine wpAny_bind (wpAny_setState_of ho rfl T.fits (wpAny_bind (wpAny_bind (wpAny_askSetting (wpAny_pure ?_)))))
 have hw':(⟨(model prog w).prog,(model prog w).w.params⟩:Setting).params.followText "set-order"=false:=hw
 rw[hw']
 simp only[Bool.false_eq_true,if_false]
 show wpAny _ _ (if dr t es.size=true then _ else _) _ _ _
 rw[if_neg (by rw[hd];decide)]
 have hl:t.led=true:=by rw[T.led,hw];rfl
 have m0:∀ {P:Unit→Shared→Prop},P () s→wpAny (model prog w) A (if (!t.led && !es.isEmpty)=true then unsupported "set:maker-not-led" else pure ()) P E s:=fun {P} q=>by
  rw[hl];simp only[Bool.not_true,Bool.false_and,Bool.false_eq_true,if_false];exact wpAny_pure q
 refine wpAny_bind (m0 (wpAny_pure ?_))
 rw[wj T.ris (by omega)]
 by_cases hlt:i < es.size
 ·have e1:es[i]?=some es[i]:=Array.getElem?_eq_getElem hlt
  have e2:t.place[i]?=some (t.place[i]'(by omega)):=Array.getElem?_eq_getElem (by omega)
  rw[e1] at h
  rw[e1,e2]
  have e3:frm t.place (i + 1)=t.place[i]'(by omega) + 1:=by simp only[frm,Array.getD_eq_getD_getElem?,e2,Option.getD_some]
  rw[e3] at h
  exact h
 ·have e1:es[i]?=none:=Array.getElem?_eq_none (by omega)
  rw[e1] at h
  rw[e1]
  exact h
theorem vM {Q:Value→Shared→Prop} {p:Nat} {x:Int×Value} (ho:s.heap.get? a=some (bJ es ep t)) (hf:t.fits es.size=true) (hx:es[p]?=some x) (h:Q x.2 s):wpAny (model prog w) A (setNextDrawn a p ep) Q E s:=by
 unfold setNextDrawn
 refine wpAny_bind (wpAny_setState_of ho rfl hf ?_)
 have e0:(ep != ep)=false:=by simp
 simp only[e0,Bool.false_eq_true,if_false,hx]
 exact wpAny_pure h
def drw (es:Array (Int×Value)) (ps:List Nat):List Value:=ps.map fun p=>((es[p]?).map (·.2)).getD .none
def SIt (prog:Program) (w:World) (h:Heap) (I a:Addr) (i:Nat) (us:List Value):Prop:=
 ∃ es ep t x0,h.get? a=some (bJ es ep t)∧TbI (!fR w) t es.size∧h.get? I=some (mY x0 i (.ref a) es.size ep)∧
  ((fR w=true∧(∃ j:Nat,x0=.int j 0)∧us=(pickOrder (w.params.setOrder a ep) es).toList.map (·.2))∨
   (fR w=false∧dr t es.size=false∧x0=.int (frm t.place i) 0∧us=es.toList.map (·.2))∨
   ∃ T ps,x0=.ref T∧h.get? T=some { cls:=.type "tuple",dict:=none,data:=.seq (ps.map fun p:Nat=>Value.int p 0).toArray 0,slots:=#[] }∧ps.Perm (List.range es.size)∧us=drw es ps)
theorem SIt.frame {h h':Heap} {i:Nat} {us:List Value} {X:Addr} {acc:List Value} {c:Nat} (S:SIt prog w h I a i us) (hX:h.get? X=some (bu acc c)) (k:∀ b o,b≠X→h.get? b=some o→h'.get? b=some o):SIt prog w h' I a i us:=by
 obtain⟨es,ep,t,x0,ho,T,hI,r⟩:=S
 have nn:∀ {b:Addr} {o:Obj},h.get? b=some o→o.cls≠.type "list"→b≠X:=fun e n z=>by subst z;rw[hX] at e;cases e;exact n rfl
 refine⟨es,ep,t,x0,k _ _ (nn ho (by simp)) ho,T,k _ _ (nn hI (by simp)) hI,?_⟩
 rcases r with r | r | ⟨T',ps,e,g,r⟩
 ·exact .inl r
 ·exact .inr (.inl r)
 ·exact .inr (.inr ⟨T',ps,e,k _ _ (nn g (by simp)) g,r⟩)
theorem SIt.len {h:Heap} {i:Nat} {us:List Value} (S:SIt prog w h I a i us):∃ es ep t,h.get? a=some (bJ es ep t)∧us.Perm (es.toList.map (·.2)):=by
 obtain⟨es,ep,t,x0,ho,T,hI,r⟩:=S
 refine⟨es,ep,t,ho,?_⟩
 rcases r with ⟨_,_,rfl⟩ | ⟨_,_,_,rfl⟩ | ⟨_,ps,_,_,p,rfl⟩
 ·exact(vE _ _).map _
 ·exact List.Perm.refl _
 ·refine(p.map _).trans (List.Perm.of_eq (List.ext_getElem? fun i=>?_))
  by_cases hi:i < es.size
  ·rw[List.getElem?_map,List.getElem?_range hi,List.getElem?_map,Array.getElem?_toList,Array.getElem?_eq_getElem hi]
   simp only[Option.map_some,Array.getElem?_eq_getElem hi,Option.getD_some]
  ·rw[List.getElem?_map,List.getElem?_map,List.getElem?_eq_none (by simp;omega),List.getElem?_eq_none (by simp;omega)];rfl
theorem wU {i:Nat} {us:List Value} {x:Value} {Q:Option Value→Shared→Prop} (S:SIt prog w s.heap I a i us) (hx:us[i]?=some x) (q:∀ h',SIt prog w h' I a (i + 1) us→Heap.SameBut I s.heap h'→Q (some x) { s with heap:=h' }):wpAny (model prog w) A (pyNext (.ref I)) Q E s:=by
 obtain⟨es,ep,t,x0,ho,T,hI,r⟩:=S
 have nI:a≠I:=fun z=>by subst z;rw[ho] at hI;simp at hI
 rcases r with ⟨hw,⟨j,rfl⟩,rfl⟩ | ⟨hw,hd,rfl,rfl⟩ | ⟨T',ps,rfl,g,p,rfl⟩
 ·refine pY (y0:=.int j 0) (x:=x) hI (fun Y=>jA (B:=fun _=>ret .none) hI ho T.fits (wpAny_bind (oX hw ho T.fits ?_))) fun h' g sb=>q h' ⟨es,ep,t,_,sb.extBut _ _ nI ho,T,g,.inl ⟨hw,⟨j,rfl⟩,rfl⟩⟩ sb
  rw[List.getElem?_map,Array.getElem?_toList] at hx
  cases e:(pickOrder (w.params.setOrder a ep) es)[i]? with
  | none=>rw[e] at hx;cases hx
  | some y=>
   rw[e] at hx
   cases hx
   dsimp only[Option.map_some]
   refine wpAny_bind (wpAny_setField_rec hI (by simp) fun g1 e1 s1=>wpAny_bind (wpAny_setField_rec e1 (by simp) fun g2 e2 s2=>wpAny_pure ⟨_,rfl,rfl,g2,rfl,?_,s1.trans s2⟩))
   rw[e2];simp [rawInt]
 ·refine pY (y0:=.int (frm t.place (i + 1)) 0) (x:=x) hI (fun Y=>jA (B:=fun _=>ret .none) hI ho T.fits (wpAny_bind (nC hw hd ho T ?_ ?_))) fun h' g sb=>q h' ⟨es,ep,t,_,sb.extBut _ _ nI ho,T,g,.inr (.inl ⟨hw,hd,rfl,rfl⟩)⟩ sb
  ·have:=(List.getElem?_eq_some_iff.mp hx).1;simp at this;omega
  ·rw[List.getElem?_map,Array.getElem?_toList] at hx
   cases e:es[i]? with
   | none=>rw[e] at hx;cases hx
   | some y=>
    rw[e] at hx
    cases hx
    dsimp only[Option.map_some]
    refine wpAny_bind (wpAny_setField_rec hI (by simp) fun g1 e1 s1=>wpAny_bind (wpAny_setField_rec e1 (by simp) fun g2 e2 s2=>wpAny_pure ⟨_,rfl,rfl,g2,rfl,?_,s1.trans s2⟩))
    rw[e2];simp [rawInt]
 ·have nT:T'≠I:=fun z=>by subst z;rw[g] at hI;simp at hI
  refine pY (y0:=.ref T') (x:=x) hI (fun Y=>jA (B:=fun _=>ret .none) hI ho T.fits ?_) fun h' g' sb=>q h' ⟨es,ep,t,_,sb.extBut _ _ nI ho,T,g',.inr (.inr ⟨T',ps,rfl,sb.extBut _ _ nT g,p,rfl⟩)⟩ sb
  dsimp only
  refine wpAny_bind (wpAny_seqItems g rfl ?_)
  rw[drw,List.getElem?_map] at hx
  cases e:ps[i]? with
  | none=>rw[e] at hx;cases hx
  | some y=>
   rw[e] at hx
   have hy:y < es.size:=List.mem_range.mp (p.mem_iff.mp (List.mem_of_getElem? e))
   rw[Option.map_some,Array.getElem?_eq_getElem hy] at hx
   cases hx
   have e':(ps.map fun p:Nat=>Value.int p 0).toArray[i]?=some (.int y 0):=by simp [e]
   dsimp only
   rw[e']
   dsimp only
   rw[Int.toNat_natCast]
   refine wpAny_bind (vM ho T.fits (Array.getElem?_eq_getElem hy) (wpAny_bind (wpAny_setField_rec hI (by simp) fun g1 e1 s1=>wpAny_pure ⟨_,rfl,rfl,g1,rfl,?_,s1⟩)))
   rw[e1];simp [rawInt]
end
end L2
namespace L2
open PySem PySem.Spec PyProof.Rows
section
variable {prog:Program} {w:World} {A:Around} {E:Value→Shared→Prop} {s:Shared} {a I:Addr} {es:Array (Int×Value)} {ep:Nat} {t:SetTable}
theorem wV {us:List Value} {Q:Option Value→Shared→Prop} (hh:A.handled=none) (S:SIt prog w s.heap I a us.length us) (q:∀ h',Heap.ExtBut I s.heap h'→Q none { s with heap:=h' }):wpAny (model prog w) A (pyNext (.ref I)) Q E s:=by
 obtain⟨es,ep,t,x0,ho,T,hI,r⟩:=S
 have nI:a≠I:=fun z=>by subst z;rw[ho] at hI;simp at hI
 rcases r with ⟨hw,⟨j,rfl⟩,rfl⟩ | ⟨hw,hd,rfl,rfl⟩ | ⟨T',ps,rfl,g,p,rfl⟩
 ·refine pZ hI (fun P Y y=>jA (B:=fun _=>ret .none) hI ho T.fits (wpAny_bind (oX hw ho T.fits ?_))) q
  rw[Array.getElem?_eq_none (by simp)]
  dsimp only[Option.map_none]
  refine wpAny_bind (wpAny_setField_rec hI (by simp) fun g1 e1 s1=>mV (by simp [hh]) fun h' e k he=>y h' e (fun b o n x=>k b o (s1.extBut b o n x)) he)
 ·refine pZ hI (fun P Y y=>jA (B:=fun _=>ret .none) hI ho T.fits (wpAny_bind (nC hw hd ho T (by simp) ?_))) q
  rw[Array.getElem?_eq_none (by simp)]
  dsimp only[Option.map_none]
  refine wpAny_bind (wpAny_setField_rec hI (by simp) fun g1 e1 s1=>mV (by simp [hh]) fun h' e k he=>y h' e (fun b o n x=>k b o (s1.extBut b o n x)) he)
 ·refine pZ hI (fun P Y y=>jA (B:=fun _=>ret .none) hI ho T.fits ?_) q
  dsimp only
  refine wpAny_bind (wpAny_seqItems g rfl ?_)
  dsimp only
  rw[Array.getElem?_eq_none (by simp [drw])]
  dsimp only
  refine wpAny_bind (wpAny_setField_rec hI (by simp) fun g1 e1 s1=>wpAny_bind (wpAny_setField_rec e1 (by simp) fun g2 e2 s2=>mV (by simp [hh]) fun h' e k he=>y h' e (fun b o n x=>k b o (s2.extBut b o n (s1.extBut b o n x))) he))
theorem uc:typeLookup (.type "set_iterator") "__next__"=pure (some (.builtin "set_iterator.__next__")):=kB.lookup
theorem vt {ns:List Int} {Q:Value→Shared→Prop} (S:kx prog w s.heap a ns)
  (q:∀ h' d' I us,(∀ b o,s.heap.get? b=some o→h'.get? b=some o)→s.heap.objs.size≤I→SIt prog w h' I a 0 us→Q (.ref I) { s with heap:=h',drawn:=d' }) (hz:ns.length≤sizeLine):wpAny (model prog w) A (pyIter (.ref a)) Q E s:=by
 obtain⟨es,ep,t,ho,hel,rfl,nd,T⟩:=S
 have hT:s.TypeIs (.ref a) "set":=⟨_,ho,rfl⟩
 refine wpAny_pyIter_slot hT F.slot_set_iter (wpAny_call_entry F.slot_set_iter hT zv ?_ (F.args_set_iter_1 _))
 unfold Builtin.«frozenset.__iter__» Builtin.Frozenset.slot0 Builtin.Frozenset.sizeOf
 refine wpAny_bind (wpAny_bind (m:=slotArgs _ _ _) (wpAny_pure (wpAny_pure ?_)))
 refine wpAny_bind (wpAny_bind (wpAny_setEntries_of ho rfl T.fits (wpAny_pure ?_)))
 refine wpAny_bind (vw ho T.fits ?_)
 by_cases hc:(!fR w && dr t es.size)=true
 ·rw[if_pos hc]
  refine wpAny_bind (pf es.size (List.range es.size) (by simp) fun ps d hp=>?_)
  have hl:ps.length=es.size:=by rw[hp.length_eq,List.length_range]
  refine wpAny_bind (wpAny_newTuple ?_ (by rw[List.length_map,hl];simpa using hz))
  have ho1:(s.heap.push { cls:=.type "tuple",data:=.seq (ps.map fun i:Nat=>rawInt i).toArray }).get? a=some (bJ es ep t):=Heap.get?_push_of_some _ ho
  refine wpAny_bind (wpAny_setEpoch_of (s:={ s with heap:=s.heap.push { cls:=.type "tuple",data:=.seq (ps.map fun i:Nat=>rawInt i).toArray },drawn:=d }) ho1 rfl T.fits ?_)
  refine wpAny_bind (wpAny_newObj_type (wpAny_pure ⟨_,rfl,"set_iterator",_,⟨_,Heap.get?_push_size _ rfl,rfl⟩,uc,?_⟩))
  refine q _ _ _ (drw es ps) (fun b o e=>Heap.get?_push_of_some _ (Heap.get?_push_of_some _ e)) (by rw[Heap.size_push];exact Nat.le_succ _) ⟨es,ep,t,_,Heap.get?_push_of_some _ ho1,T,Heap.get?_push_size _ rfl,.inr (.inr ⟨_,ps,rfl,Heap.get?_push_of_some _ (Heap.get?_push_size _ rfl),hp,rfl⟩)⟩
 ·rw[if_neg hc]
  refine wpAny_bind (wpAny_pure (wpAny_bind (wpAny_setEpoch_of ho rfl T.fits ?_)))
  refine wpAny_bind (wpAny_newObj_type (wpAny_pure ⟨_,rfl,"set_iterator",_,⟨_,Heap.get?_push_size _ rfl,rfl⟩,uc,?_⟩))
  have key:∀ us,(fR w=true∧(∃ j:Nat,rawInt 0=.int j 0)∧us=(pickOrder (w.params.setOrder a ep) es).toList.map (·.2))∨(fR w=false∧dr t es.size=false∧rawInt 0=.int (frm t.place 0) 0∧us=es.toList.map (·.2))→SIt prog w (s.heap.push (mY (rawInt 0) 0 (.ref a) es.size ep)) s.heap.objs.size a 0 us:=fun us r=>
   ⟨es,ep,t,_,Heap.get?_push_of_some _ ho,T,Heap.get?_push_size _ rfl,by rcases r with r | r;exact .inl r;exact .inr (.inl r)⟩
  cases hw:fR w with
  | true=>exact q _ s.drawn _ _ (fun b o e=>Heap.get?_push_of_some _ e) (Nat.le_refl _) (key _ (.inl ⟨hw,⟨0,rfl⟩,rfl⟩))
  | false=>
   have hd:dr t es.size=false:=by rw[hw] at hc;simpa using hc
   exact q _ s.drawn _ _ (fun b o e=>Heap.get?_push_of_some _ e) (Nat.le_refl _) (key _ (.inr ⟨hw,hd,rfl,rfl⟩))
end
end L2
namespace L2
open PySem PySem.Spec PyProof.Rows
theorem wR:splitId "set.__len__"=some ("set","__len__"):=by kernel_rfl
theorem jJ {n:Nat} (h:n < 64):n < sizeLine:=by rw[sizeLine_eq];omega
section
variable {prog:Program} {w:World} {A:Around} {E:Value→Shared→Prop} {s:Shared} {a I:Addr}
theorem Aw {X:Addr} {ns:List Int} {R:Result→Shared→Prop} {c:Nat} {Y:Value→Shared→Prop} (hh:A.handled=none) (S:kx prog w s.heap a ns) (hX:s.heap.get? X=some (bu [] c)) (h64:ns.length < 64)
  (q:∀ h' d' us c',(∀ b o,b≠X→s.heap.get? b=some o→h'.get? b=some o)→h'.get? X=some (bu us c')→(∃ es:Array (Int×Value),ElI (prog:=prog) (w:=w) es.toList∧ns=es.toList.map (fun e=>numOf e.2)∧us.Perm (es.toList.map (·.2)))→R (.ok (.ret (.ref X))) { s with heap:=h',drawn:=d' }) :
  wpAny (model prog w) A.in1 (Builtin.List.listExtendWith (.ref X) (.ref a) (.ref X)) (fun fin s'=>match fin with | .done f=>R (.ok f) s' | .again c'=>c'.quiet=true∧codeAny (model prog w) A c' R s') Y s:=by
 obtain⟨es0,ep0,t0,ho0,hel0,hns,nd0,T0⟩:=id S
 have nX:∀ {b:Addr} {o:Obj},s.heap.get? b=some o→o.cls≠.type "list"→b≠X:=fun e n z=>by subst z;rw[hX] at e;cases e;exact n rfl
 have naX:a≠X:=nX ho0 (by simp)
 have hT:s.TypeIs (.ref a) "set":=⟨_,ho0,rfl⟩
 unfold Builtin.List.listExtendWith
 refine wpAny_bind (wpAny_typeOf hT ?_)
 have b1:Builtin.List.listSameRef (.ref X) (.ref a)=false:=by simp [Builtin.List.listSameRef,naX.symm]
 have b2:(Value.type "set" == Value.type "list")=false:=by decide
 have b3:(Value.type "set" == Value.type "tuple")=false:=by decide
 simp only[b1,b2,b3,Bool.or_false,Bool.false_eq_true,if_false]
 refine wpAny_bind (vt S (fun h1 d1 I us k1 hI S1=>?_) (Nat.le_of_lt (jJ h64)))
 have ho1:=k1 _ _ ho0
 have hT1:Shared.TypeIs { s with heap:=h1,drawn:=d1 } (.ref a) "set":=⟨_,ho1,rfl⟩
 refine wpAny_bind (wpAny_holding ?_)
 unfold Builtin.List.listLengthHint
 refine wpAny_bind (wpAny_specialOf hT1 F.slot_set_len.lookup ?_)
 dsimp only
 rw[wR]
 dsimp only
 refine wpAny_bind (wpAny_isInstance hT1 sub_set_self ?_)
 simp only[Bool.not_true,Bool.false_eq_true,if_false]
 rw[if_pos (by decide +kernel)]
 refine wpAny_bind (wpAny_typeOf hT1 (wpAny_pure ?_))
 rw[if_pos (by decide +kernel)]
 refine wpAny_bind (wpAny_rule (wpAny_bind ?_))
 show wpAny _ _ (updateSeq X (·.push .none) >>= fun _=>updateSeq X (·.pop)) _ _ _
 have hX1:=k1 _ _ hX
 refine wpAny_bind (wpAny_updateSeq (s:={ s with heap:=h1,drawn:=d1 }) hX1 rfl ?_)
 have hX2:=Heap.get?_update_self (Obj.mapSeq (·.push Value.none)) hX1 rfl
 refine wpAny_updateSeq (hz:=by seq_fits) hX2 rfl ?_
 have hX3:=Heap.get?_update_self (Obj.mapSeq (·.pop)) hX2 rfl
 have up3:∀ b o,b≠X→h1.get? b=some o→((h1.update X (Obj.mapSeq (·.push Value.none))).update X (Obj.mapSeq (·.pop))).get? b=some o:=fun b o nb e=>(Heap.get?_update_other _ _ (Ne.symm nb)).trans ((Heap.get?_update_other _ _ (Ne.symm nb)).trans e)
 generalize hg3:(h1.update X (Obj.mapSeq (·.push Value.none))).update X (Obj.mapSeq (·.pop))=g3 at hX3 up3
 obtain⟨c0,hc0⟩:∃ c0,g3.get? X=some (bu [] c0):=⟨_,hX3⟩
 have S3:SIt prog w g3 I a 0 us:=S1.frame hX1 up3
 obtain⟨es,ep,t,ho,pu⟩:=S1.len
 have ee:es=es0:=by rw[ho1] at ho;cases ho;rfl
 subst ee
 have hlen:us.length=ns.length:=by rw[pu.length_eq,hns];simp
 have nI:I≠X:=fun z=>Nat.lt_irrefl _ (Nat.lt_of_lt_of_le (Heap.lt_size hX) (z ▸ hI))
 let J:Nat→List Value→Shared→Prop:=fun i acc s'=>acc=us.take i∧i≤us.length∧SIt prog w s'.heap I a i us∧(∃ c,s'.heap.get? X=some (bu acc c))∧(∀ b o,b≠X→s.heap.get? b=some o→s'.heap.get? b=some o)∧∃ h',s'={ s with heap:=h',drawn:=d1 }
 refine wpAny_pure ⟨plainId_quiet F.plain_extend_loop _,yH J (n:=us.length) (by rw[hlen];exact jJ h64) (fun i acc s' h=>?_) (fun i acc s' E' hi h=>?_) (fun acc s' E' h=>?_) _ 0 [] _ rfl (Nat.zero_le _) ⟨rfl,Nat.zero_le _,S3,⟨c0,hc0⟩,fun b o n e=>up3 b o n (k1 b o e),_,rfl⟩⟩
 ·obtain⟨rfl,h2,_⟩:=h
  rw[List.length_take];omega
 ·obtain⟨rfl,h2,S',⟨c',hX'⟩,kk,h'',rfl⟩:=h
  refine wU (s:={ s with heap:=h'',drawn:=d1 }) S' (List.getElem?_eq_getElem hi) fun h2' S2 sb=>⟨_,c',rfl,sb.extBut _ _ nI.symm hX',fun g sg hg=>⟨?_,hi,S2.frame (sb.extBut _ _ nI.symm hX') fun b o n e=>sg.extBut b o n e,⟨_,hg⟩,fun b o n e=>sg.extBut b o n (sb.extBut b o (fun z=>?_) (kk b o n e)),g,rfl⟩⟩
  ·rw[List.take_succ,List.getElem?_eq_getElem hi];rfl
  ·exact Nat.lt_irrefl _ (Nat.lt_of_lt_of_le (Heap.lt_size e) (z ▸ hI))
 ·obtain⟨rfl,h2,S',⟨c',hX'⟩,kk,h'',rfl⟩:=h
  refine wV (s:={ s with heap:=h'',drawn:=d1 }) (by simp [hh]) S' fun h2' xb=>⟨rfl,?_⟩
  refine q h2' d1 us c' (fun b o n e=>xb b o (fun z=>?_) (kk b o n e)) ?_ ⟨es,hel0,hns,pu⟩
  ·exact Nat.lt_irrefl _ (Nat.lt_of_lt_of_le (Heap.lt_size e) (z ▸ hI))
  ·have:=xb X _ nI.symm hX'
   rw[List.take_length] at this
   exact this
theorem vX {es:Array (Int×Value)} {us:List Value} (hel:ElI (prog:=prog) (w:=w) es.toList) (p:us.Perm (es.toList.map (·.2))):∃ ms,IntsAre us ms∧ms.Perm (es.toList.map fun e=>numOf e.2):=by
 refine⟨us.map numOf,intsAre_map us fun v hv=>?_,?_⟩
 ·obtain⟨e,he,rfl⟩:=List.mem_map.mp (p.mem_iff.mp hv)
  obtain⟨k,tk,rfl⟩:=hel e he
  exact⟨k,tk,rfl⟩
 ·have:=p.map numOf
  rw[List.map_map] at this
  exact this
theorem rj {ns:List Int} {P:Value→Shared→Prop} (hh:A.handled=none) (S:kx prog w s.heap a ns) (h64:ns.length < 64)
  (q:∀ h' d' us c',(∀ b o,s.heap.get? b=some o→h'.get? b=some o)→h'.get? s.heap.objs.size=some (bu us c')→(∃ es:Array (Int×Value),ElI (prog:=prog) (w:=w) es.toList∧ns=es.toList.map (fun e=>numOf e.2)∧us.Perm (es.toList.map (·.2)))→P (.ref s.heap.objs.size) { s with heap:=h',drawn:=d' }) :
  wpAny (model prog w) A (runValue (.builtin "proto.collect" ⟨[.ref a],[]⟩)) P E s:=by
 refine wpAny_runValue (codeAny_builtin entry_proto_collect' ?_)
 show wpAny _ _ (newList [] >>= fun l=>again (.builtin "list.__iadd__" ⟨[l,.ref a],[]⟩)) _ _ s
 refine wpAny_bind (wpAny_newList (wpAny_pure ⟨Code.quiet_builtin _ (by decide +kernel),codeAny_builtin entry_list_iadd' ?_⟩))
 show wpAny _ _ (Builtin.List.listExtendWith (.ref s.heap.objs.size) (.ref a) (.ref s.heap.objs.size)) _ _ { s with heap:=s.heap.push (bu [] 0) }
 rw[Around.under_plainId F.plain_list_iadd _]
 exact Aw (A:=A) (R:=fun r s'=>match r with | .ok (.ret v)=>P v s' | .ok _=>False | .error e=>E e s') (s:={ s with heap:=s.heap.push (bu [] 0) }) hh (S.at fun o e=>Heap.get?_push_of_some _ e) (Heap.get?_push_size _ rfl) h64 fun h1 d1 us c1 k1 hX x=>q h1 d1 us c1 (fun b o e=>k1 b o (Nat.ne_of_lt (Heap.lt_size e)) (Heap.get?_push_of_some _ e)) hX x
theorem sQ {ns:List Int} {Q:Value→Shared→Prop} (hh:A.handled=none) (S:kx prog w s.heap a ns) (h64:ns.length < 64)
  (q:∀ h' d' L out e ms,s.heap.objs.size≤L→(∀ b o,s.heap.get? b=some o→h'.get? b=some o)→h'.get? L=some (seqObj "list" out e)→IntsAre out.toList ms→ms.Perm ns→ms.Pairwise (·≤·)→Q (.ref L) { s with heap:=h',drawn:=d' }) :
  wpAny (model prog w) A (call (.builtin "sorted") [.ref a]) Q E s:=by
 refine Calls.call_function_entry kind_sorted plain_sorted entry_sorted (args_sorted1 _) ?_
 unfold Builtin.«sorted»
 refine wpAny_bind (m:=checkCount "sorted" 1 1 _) (wpAny_pure ?_)
 refine wpAny_bind ?_
 show wpAny _ _ (collect (.ref a)) _ _ _
 unfold collect
 refine wpAny_bind (rj (A:=A.in1) (by simp [hh]) S h64 fun h1 d1 us c1 k1 hX ⟨es,hel,hns,pu⟩=>?_)
 show wpAny (model prog w) _ (load s.heap.objs.size >>= fun o=>_) _ _ _
 refine wpAny_bind (wpAny_load hX (wpAny_pure ?_))
 obtain⟨ms0,hi0,pm0⟩:=vX hel pu
 have hl:us.length < 64:=by rw[pu.length_eq];rw[hns] at h64;simpa using h64
 refine wpAny_bind (wpAny_newList ?_ (by have:=jJ hl;simp;omega))
 have hL:(h1.push (seqObj "list" us.toArray 0)).get? h1.objs.size=some (seqObj "list" us.toArray 0):=Heap.get?_push_size _ rfl
 refine wpAny_bind (wpAny_holding (wpAny_call_entry slot_list_sort ⟨_,hL,rfl⟩ entry_list_sort (list_sort_tree (s:={ s with heap:=h1.push (seqObj "list" us.toArray 0),drawn:=d1 }) hL hi0 hl fun out ms' a1 a2 a3=>⟨_,rfl,?_⟩) (args_list_sort _)))
 have hlt:s.heap.objs.size < h1.objs.size:=Heap.lt_size hX
 obtain⟨e,he⟩:=sortedHeap_at (h:=h1.push (seqObj "list" us.toArray 0)) (vs:=us) (out:=out) hL
 refine wpAny_pure ⟨_,rfl,q _ d1 _ out e ms' (Nat.le_of_lt hlt) (fun b o eb=>?_) he a1 ((a2.trans pm0).trans (by rw[hns])) a3⟩
 have lb:=Heap.lt_size eb
 have e1:h1.get? b=some o:=k1 b o eb
 have l1:b < h1.objs.size:=Nat.lt_trans lb hlt
 rw[sortedHeap_old (Nat.ne_of_lt l1) (by rw[Heap.size_push];exact Nat.lt_succ_of_lt l1)]
 exact Heap.get?_push_of_some _ e1
end
end L2
namespace L2
open PySem PySem.Spec PyProof.Rows
section
variable {prog:Program} {w:World} {A:Around} {E:Value→Shared→Prop} {s:Shared}
set_option maxHeartbeats 3200000 in
theorem wb {l:Addr} {vs:List Value} {ns:List Int} {Q:Value→Shared→Prop} (hh:A.handled=none) (hl:s.heap.IsList l vs.toArray) (hi:IntsAre vs ns) (hb:ns.length + 1 < scanBound)
  (q:∀ h' t' ms,(∀ b o,s.heap.get? b=some o→h'.get? b=some o)→kx prog w h' s.heap.objs.size ms→(∀ m,m∈ms↔m∈ns)→ms.length≤ns.length→Q (.ref s.heap.objs.size) { s with heap:=h',toks:=t' }) :
  wpAny (model prog w) A (call (.type "set") [.ref l]) Q E s:=by
 obtain⟨c,tl,hmro⟩:=F.called_set.mro
 have hmade:=F.called_set.made
 have hsub:=F.called_set.sub
 refine wpAny_call (codeAny_of_tree ?_)
 show wpAny _ _ (callAny (.type "set") _) _ _ _
 refine wpAny_pure ⟨Code.quiet_builtin _ (by decide +kernel),codeAny_builtin F.entry_type_call ?_⟩
 rw[Around.under_plain (weight_type_call_type "set" [.ref l] []) rfl]
 have h1:=F.called_set.notType
 have h2:=F.called_set.canCreate
 have hct:=F.typeCall_set_1 (.ref l)
 repeat (any_goals (first | assumption | wp_step))
 refine codeAny_mono (xV (.ref l) (E:=E) (Q:=fun obj s1=>obj=.ref s.heap.objs.size∧s1={ s with heap:=s.heap.push (bJ #[] 0 (.fresh 0 0 (!fR w))) }) ⟨rfl,rfl⟩) fun r s1 hr=>?_
 cases r with
 | error e=>exact hr
 | ok fl=>
  cases fl with
  | ret obj=>
   obtain⟨rfl,rfl⟩:=hr
   have hS:(s.heap.push (bJ #[] 0 (.fresh 0 0 (!fR w)))).get? s.heap.objs.size=some (bJ #[] 0 (.fresh 0 0 (!fR w))):=Heap.get?_push_size _ rfl
   have hT:Shared.TypeIs { s with heap:=s.heap.push (bJ #[] 0 (.fresh 0 0 (!fR w))) } (.ref s.heap.objs.size) "set":=⟨_,hS,rfl⟩
   have hli:=F.called_set.init.lookup
   have hbi:=F.called_set.init.bind (.ref s.heap.objs.size)
   repeat (any_goals (first | assumption | wp_step))
   have nl:l≠s.heap.objs.size:=let ⟨o,e,_⟩:=hl;Nat.ne_of_lt (Heap.lt_size e)
   refine codeAny_mono (codeAny_call_builtin (R:=wants (fun r s2=>r=.none∧Q (.ref s.heap.objs.size) s2) E) F.called_set.init.plain F.entry_set_init (check_set_init_1 hT (vY (A:=A.in1) (R:=wants (fun r s2=>r=.none∧Q (.ref s.heap.objs.size) s2) E) (s:={ s with heap:=s.heap.push (bJ #[] 0 (.fresh 0 0 (!fR w))) }) (by first | exact hh | simp [hh]) hS (hl.push _) hi hb nl fun h' t' ms k S' hm hz=>⟨rfl,q h' t' ms (fun b o e=>k b o (Nat.ne_of_lt (Heap.lt_size e)) (fun z=>?_) (Heap.get?_push_of_some _ e)) S' hm hz⟩))) fun r2 s2 hr2=>?_
   ·have:=Heap.lt_size e
    rw[z] at this
    have e2:(s.heap.push (bJ #[] 0 (.fresh 0 0 (!fR w)))).objs.size=s.heap.objs.size + 1:=Heap.size_push ..
    exact Nat.lt_irrefl _ (Nat.lt_trans (Nat.lt_succ_self _) (e2 ▸ this))
   ·cases r2 with
    | error e=>exact hr2
    | ok fl2=>
     cases fl2 with
     | ret r=>
      obtain⟨rfl,hq⟩:=hr2
      repeat (any_goals (first | assumption | wp_step))
     | _=>exact hr2.elim
  | _=>exact hr.elim
end
end L2
namespace L2
open PySem PySem.Spec PyProof.Rows
def qy (x:Int):List Int→List Int
 | []=>[x]
 | y::r=>if x < y then x::y::r else if x=y then y::r else y::qy x r
def sset (ns:List Int):List Int:=ns.foldr qy []
theorem nF {x m:Int}:∀ {l:List Int},m∈qy x l↔m=x∨m∈l
 | []=>by simp [qy]
 | y::r=>by
  unfold qy
  split
  ·simp
  ·split
   ·rename_i h;subst h;simp
   ·simp only[List.mem_cons,nF (l:=r)]
    constructor <;> (intro h;rcases h with h | h | h <;> simp [h])
theorem o4 {x:Int}:∀ {l:List Int},l.Pairwise (· < ·)→(qy x l).Pairwise (· < ·)
 | [],_=>by simp [qy]
 | y::r,h=>by
  obtain⟨h1,h2⟩:=List.pairwise_cons.mp h
  unfold qy
  split
  ·rename_i hx
   exact List.pairwise_cons.mpr ⟨fun z hz=>by rcases List.mem_cons.mp hz with rfl | hz;exact hx;exact Int.lt_trans hx (h1 z hz),h⟩
  ·split
   ·exact h
   ·rename_i hx hy
    refine List.pairwise_cons.mpr ⟨fun z hz=>?_,o4 h2⟩
    rcases nF.mp hz with rfl | hz
    ·omega
    ·exact h1 z hz
theorem rN {m:Int}:∀ {ns:List Int},m∈sset ns↔m∈ns
 | []=>by simp [sset]
 | x::r=>by
  show m∈qy x (sset r)↔_
  rw[nF,rN (ns:=r),List.mem_cons]
theorem oF:∀ (ns:List Int),(sset ns).Pairwise (· < ·)
 | []=>by simp [sset]
 | x::r=>o4 (oF r)
theorem p8:∀ {xs ys:List Int},xs.Pairwise (· < ·)→ys.Pairwise (· < ·)→(∀ m,m∈xs↔m∈ys)→xs=ys
 | [],[],_,_,_=>rfl
 | [],y::ys,_,_,h=>by have:=(h y).mpr (by simp);simp at this
 | x::xs,[],_,_,h=>by have:=(h x).mp (by simp);simp at this
 | x::xs,y::ys,h1,h2,h=>by
  obtain⟨a1,a2⟩:=List.pairwise_cons.mp h1
  obtain⟨b1,b2⟩:=List.pairwise_cons.mp h2
  have e:x=y:=by
   have p:=(h x).mp (by simp)
   have q:=(h y).mpr (by simp)
   rcases List.mem_cons.mp p with p | p
   ·exact p
   ·rcases List.mem_cons.mp q with q | q
    ·exact q.symm
    ·have:=a1 y q;have:=b1 x p;omega
  subst e
  rw[p8 a2 b2 fun m=>⟨fun hm=>?_,fun hm=>?_⟩]
  ·rcases List.mem_cons.mp ((h m).mp (List.mem_cons_of_mem _ hm)) with rfl | z
   ·have:=a1 _ hm;omega
   ·exact z
  ·rcases List.mem_cons.mp ((h m).mpr (List.mem_cons_of_mem _ hm)) with rfl | z
   ·have:=b1 _ hm;omega
   ·exact z
theorem zD {l:List Int} (h:l.Pairwise (·≤·)) (n:l.Nodup):l.Pairwise (· < ·):=
 (h.and n).imp fun ⟨a,b⟩=>by omega
theorem zw {ns ms ks:List Int} (hm:∀ m,m∈ms↔m∈ns) (nd:ms.Nodup) (p:ks.Perm ms) (s:ks.Pairwise (·≤·)):ks=sset ns:=
 p8 (zD s (p.nodup_iff.mpr nd)) (oF ns) fun m=>by rw[p.mem_iff,hm,rN]
section
variable {X:Cx} {pins:List (Addr×Obj)} {σ:St} {H:Hp} {s:Shared}
theorem Inv.draw {d:Drawn} (I:Inv X pins σ H s):Inv X pins σ H { s with drawn:=d }:=⟨I.ok,I.os,I.bare,I.base,I.loc,I.cell,I.free,I.freeC,I.pin,I.hok,I.len⟩
def AV (t:TA):TE:=fun σ H Q=>t σ H fun vs H1=>∃ (p:Addr) (ns:List Int),vs=[.ref p]∧H1 p=some (.lst (ns.map V.int))∧ns.length < 64∧∀ S,H1 S=none→Q (.ref S) (upd H1 S (.lst ((sset ns).map V.int)))
theorem kx.nodup {w:World} {prog:Program} {h:Heap} {a:Addr} {ms:List Int} (S:kx prog w h a ms):ms.Nodup:=let ⟨_,_,_,_,_,_,n,_⟩:=S;n
theorem z0 {e:Expr} {ta:TA} {p p2 pos pos2:Pos} (hc:X.calm=true) (hg:Gl X "sorted") (hm:X.mg "sorted"=none) (hg2:Gl X "set") (hm2:X.mg "set"=none) (ha:PA X [e] ta)
  (hs:starEach [e] X.env=[(false,eval e X.env)]:=by rfl) (hs3:starEach [Expr.Call (.Name "set" p2) [e] [] pos2] X.env=[(false,eval (.Call (.Name "set" p2) [e] [] pos2) X.env)]:=by rfl) :
  PE X (.Call (.Name "sorted" p) [.Call (.Name "set" p2) [e] [] pos2] [] pos) (AV ta):=by
 intro pins s σ H Q I h
 refine wpAny_Call_Name_kw (kf I hg hm (by decide +kernel:bootBuiltins "sorted"=some (.builtin "sorted")) ?_)
 refine PyProof.Rows.callWith_builtin1 ?_ (by rw[hs3];rfl) rfl
 rw[hs3]
 show wpAny _ _ (spliced ((false,eval (.Call (.Name "set" p2) [e] [] pos2) X.env)::backTo pos [])) _ _ s
 refine Calls.spliced_cons (Call_ (kf I hg2 hm2 (by decide +kernel:bootBuiltins "set"=some (.type "set")) (PyProof.Rows.callWith_type1 (thn (ha pos2 pins s σ H _ I h) fun us s1 ⟨vs,H1,I1,r1,q1⟩=>?_) (by rw[hs];rfl) rfl)))
 obtain⟨l,ns,e',h1,hn,q⟩:=q1
 subst e'
 cases r1 with
 | cons ru r1=>
 cases r1
 cases ru
 obtain⟨ia,na,ra,ea,_⟩:=I1.lst h1
 refine wb (vs:=ia) (ns:=ns) (I.ok.hd hc) ⟨_,ea,rfl,_,rfl⟩ (intsAre_of ra) (by have:scanBound=4096:=rfl;omega) fun h2 t2 ms k2 S2 hm2 hl2=>?_
 have I2:Inv X pins σ H1 { s1 with heap:=h2,toks:=t2 }:=I1.kept (t':=t2) k2
 refine Calls.spliced_nil ?_
 refine sQ (s:={ s1 with heap:=h2,toks:=t2 }) (I.ok.hd hc) S2 (by omega) fun h3 d3 L out c ks hL k3 gL iL pL sL=>?_
 have I3:Inv X pins σ H1 { s1 with heap:=h3,toks:=t2,drawn:=d3 }:=(I2.kept (t':=t2) k3).draw
 have fL:H1 L=none:=I2.hok.fresh hL
 have eks:ks=sset ns:=zw hm2 S2.nodup pL sL
 subst eks
 have lk:((sset ns).map V.int).length≤sizeLine:=by
  have:=pL.length_eq
  have:=jJ (show (sset ns).length < 64 by omega)
  rw[List.length_map];omega
 exact⟨.ref L,_,I3.adopt (c:=c) (us:=out.toList) ((I2.rW hL fL).heap fL) (by rw[gL]) (lq iL) lk,rfl,q L fL⟩
end
end L2
namespace L3
open PySem L2 PySem.Spec PyProof.Rows
section
variable {K:PySem.W.Frag} {X:Cx} {e:Expr} {ta:TA} {t3:cq} {p p2 pos pos2:Pos}
def ss3 (t3:cq) (Γ:G) (Q:RV→G→Prop):Prop:=t3 Γ fun bs Γ1=>∃ ns:List Int,ats Γ1 bs=some [.lst (ns.map .int)]∧ns.length < 64∧Q (.fr (.lst ((sset ns).map .int))) Γ1
theorem ux (hc:X.calm=true) (hg:Gl X "sorted") (hm:X.mg "sorted"=none) (hg2:Gl X "set") (hm2:X.mg "set"=none) (ha:oy K X [e] ta t3)
  (hs:starEach [e] X.env=[(false,eval e X.env)]:=by rfl) (hs3:starEach [Expr.Call (.Name "set" p2) [e] [] pos2] X.env=[(false,eval (.Call (.Name "set" p2) [e] [] pos2) X.env)]:=by rfl) :
  P3 K X (.Call (.Name "sorted" p) [.Call (.Name "set" p2) [e] [] pos2] [] pos) (AV ta) (ss3 t3):=⟨z0 hc hg hm hg2 hm2 ha.pe hs hs3,by
 intro B F σ H Γ Q QQ e q k
 refine ha.rf B F σ H Γ _ _ e q fun vs H1 ⟨F1,Γ1,bs,s1,e1,r0,ns,hd,hz,q1⟩=>?_
 obtain⟨v,rfl,p1,vs1,rfl,g1,r1⟩:=(e1.bos r0 hd).one
 have ev:=aA.rV r1
 subst ev
 refine⟨p1,ns,rfl,g1,hz,fun S hS=>k _ _ ?_⟩
 obtain⟨F2,s2,e2,f2,g⟩:=e1.grow (H':=upd H1 S (.lst ((sset ns).map V.int))) (fun b o eb=>by rw[ah (bj eb hS)];exact eb) S hS
 exact⟨F2,Γ1,.fr (.lst ((sset ns).map .int)),s1.trans s2,e2,⟨S,rfl,f2,⟨_,au,aA.ints _⟩,e1.dom _ hS,e1.rL hS⟩,q1⟩⟩
theorem BC {Γ:G} {Q:RV→G→Prop}:ss3 t3 Γ Q=t3 Γ fun bs Γ1=>∃ ns:List Int,ats Γ1 bs=some [.lst (ns.map .int)]∧ns.length < 64∧Q (.fr (.lst ((sset ns).map .int))) Γ1:=rfl
end
end L3
namespace L3
open PySem L2 PySem.Spec PySem.SeqAt
section
variable {K:PySem.W.Frag} {X:Cx} {a b e:Expr} {ta tb te:TE} {a3 b3:TB3} {e3:TE3} {pos:Pos}
theorem dQ (ha:P3B K X a ta a3) (hb:P3B K X b tb b3):P3 K X (.BinOp a .BitOr b pos) (tOp (rI0 fun i j=>.int (Builtin.bitOr i j)) ta tb) (kz (i2' fun i j=>.int (Builtin.bitOr i j)) a3 b3):=⟨jR E2 ha.pe hb.pe,fK (mv fun _ _ _=>rfl) ha.rf hb.rf⟩
theorem C8 (ha:P3B K X a ta a3) (hb:P3B K X b tb b3):P3 K X (.BinOp a .LShift b pos) (tOp (rI wk fun i j=>.int (i * 2 ^ j.toNat)) ta tb) (kz (i2 wk fun i j=>.int (i * 2 ^ j.toNat)) a3 b3):=⟨jR Dh ha.pe hb.pe,fK (opI fun _ _ _=>rfl) ha.rf hb.rf⟩
theorem C7 (ha:P3B K X a ta a3) (hb:P3B K X b tb b3):P3 K X (.BinOp a .RShift b pos) (tOp (rI (fun _ j=>0≤j) fun i j=>.int (i / 2 ^ j.toNat)) ta tb) (kz (i2 (fun _ j=>0≤j) fun i j=>.int (i / 2 ^ j.toNat)) a3 b3):=⟨jR Dg ha.pe hb.pe,fK (opI fun _ _ _=>rfl) ha.rf hb.rf⟩
inductive Nm:D→D→Prop where
 | dct (p:Addr):Nm .dct (.obj p none)
 | ins (C p:Addr):Nm (.ins C [] []) (.obj p (some C))
 | same {d:D} (h1:d≠.dct) (h2:∀ C,d≠.ins C [] []):Nm d d
theorem E9 {F:Hp} {d:D} {v:V} (r:Rep K F d v):∃ d',Nm d d'∧Rep K F d' v:=by
 by_cases h1:d=.dct
 ·subst h1
  obtain⟨p,e,h⟩:=r
  exact⟨.obj p none,.dct p,e,h⟩
 ·by_cases h2:∃ C,d=.ins C [] []
  ·obtain⟨C,rfl⟩:=h2
   obtain⟨p,dx,gs,e,h,hn,_⟩:=r
   have hg:gs=[]:=List.map_eq_nil_iff.mp hn
   subst hg
   exact⟨.obj p (some C),.ins C p,e,dx,h⟩
  ·exact⟨d,.same h1 fun C z=>h2 ⟨C,z⟩,r⟩
def ad3 (e3:TE3) (Γ:G) (Q:RV→G→Prop):Prop:=e3 Γ fun r Γ1=>∀ d,Nm r.d d→Q (.fz d) Γ1
theorem xI (h:P3 K X e te e3):P3 K X e te (ad3 e3):=⟨h.pe,fun B F σ H Γ Q QQ en q k=>h.rf B F σ H Γ _ _ en q fun v H' ⟨F',Γ',r,s,e',rv,q'⟩=>by
 obtain⟨F2,s2,e2,rp⟩:=e'.frozen rv
 obtain⟨d,hd,rd⟩:=E9 rp
 exact k v H' ⟨F2,Γ',.fz d,s.trans s2,e2,rd,q' d hd⟩⟩
def eqX (d d':D):Option Bool:=match d,d' with
 | .obj p _,.obj q _=>if p=q then some true else none
 | d,d'=>eqN 18 d d'
theorem DT {F H:Hp} {pins:List (Addr×Obj)} {σ:L2.St} {s:Shared} {A:Around} {d d':D} {v v':V} {u u':Value} {k:Bool} (I:Inv X pins σ H s) (sm:aG F H) (hu:A.units + 18 < cLine) (r:Rep K F d v) (r':Rep K F d' v') (q:RelV v u) (q':RelV v' u') (e:eqX d d'=some k):EqAt A s u u' k:=by
 unfold eqX at e
 split at e
 ·split at e
  ·rename_i h
   cases e
   obtain⟨rfl,_⟩:=r
   obtain⟨rfl,_⟩:=r'
   cases q;cases q'
   subst h
   exact EqAt.same _
  ·cases e
 ·exact nR I sm 18 hu r r' q q' e
def CI (K:PySem.W.Frag):R2:=fun x y H Q=>∃ F a b d d' k,aG F H∧Rep K F (.tup [.str a,d]) x∧Rep K F (.tup [.str b,d']) y∧eqX d d'=some k∧Q (.bl (!(a == b && k))) H
theorem Dj (hK:X.K=K) (hu:X.A.units + 20 < cLine):OpR X (compareOp .NotEq) (CI K):=by
 intro pins s σ H x y v u Q I rx ry h
 obtain⟨F,a,b,d,d',k,sm,⟨p,vs,rfl,g1,r1⟩,⟨p',ws,rfl,g2,r2⟩,e,q⟩:=h
 cases rx;cases ry
 obtain⟨us,q1,l1⟩:=ki I (sm _ _ g1)
 obtain⟨zs,q2,l2⟩:=ki I (sm _ _ g2)
 have n1:us.toArray.size=2:=by rw[List.size_toArray,← q1.length,r1.length];rfl
 have n2:zs.toArray.size=2:=by rw[List.size_toArray,← q2.length,r2.length];rfl
 have hu1:X.A.in1.units + 18 < cLine:=by show X.A.units + 1 + 18 < cLine;omega
 have key:=RcNeAt.tuples (A:=X.A) (e:=fun j=>if j=0 then a == b else k) l1 l2 (by omega) fun j h1 h2=>by
  obtain⟨v,hv,rv⟩:=Vals.at' q1 h1
  obtain⟨w,hw,rw'⟩:=Vals.at' q2 h2
  obtain⟨x,hx,rx⟩:=r1.yu hv
  obtain⟨y,hy,ry⟩:=r2.yu hw
  match j,hx,hy with
  | 0,hx,hy=>
   cases hx;cases hy
   cases rx;cases ry
   obtain⟨t,e1⟩:=rv
   obtain⟨t',e2⟩:=rw'
   rw[e1,e2]
   exact .str_str _ _ _ _
  | 1,hx,hy=>
   cases hx;cases hy
   exact DT I sm hu1 rx ry rv rw' e
  | j + 2,hx,hy=>cases hx
 rw[n1,n2] at key
 refine key _ _ _ _ (nL I q ?_)
 simp [List.range,List.range.loop]
def E_ (x y:D) (Γ:G) (Q:RV→G→Prop):Prop:=∃ a b d d' k,x=.tup [.str a,d]∧y=.tup [.str b,d']∧eqX d d'=some k∧Q (.fz (.bl (!(a == b && k)))) Γ
theorem Dw:j6 K (CI K) E_:=by
 intro B F σ H Γ x y dx dy Q QQ e rx ry q k
 obtain⟨a,b,d,d',k',rfl,rfl,hk,q⟩:=q
 exact⟨F,a,b,d,d',k',e.sub,rx,ry,hk,k _ _ (iC e q)⟩
theorem D0 (hK:X.K=K) {k:Nat} (hr:bO k X.A):C3 K X .NotEq (CI K) E_:=⟨Dj hK (by have:=hr.un;omega),Dw⟩
end
end L3
namespace L2
open PySem PySem.Spec PyProof.Rows
section
variable {X:Cx} {x:Str} {f:Addr} {p pos:Pos} {e:Expr} {es:List Expr} {t:TA} {k j:Nat} {fd:FuncData} {ps:List Str} {CX:CXT} {sp:Sp} {E:St→XK}
def ub (j:Nat) (f:Addr) (sp:Sp) (E:St→XK) (t:TA):TE:=fun σ H Q=>σ[j]?=some (some (.ref f))∧pQ sp [] E t σ H Q
theorem vI (lk:∃ oc od sl,X.K.lookup f=some ⟨oc,od,.func fd,sl⟩) (F:aM X.prog X.w X.K X.mg X.base CX k f fd ps sp) (hx:dH CX X E) (hr:bO k X.A) (hb:Binds X.K fd ps []) (hN:X.N[j]?=some x) (hv:Vis X.env.scope x) (ha:PA X (e::es) t)
  (hdb:(x == ("__debug__":Str))=false:=by decide) (hcd:(x == ("__classdict__":Str))=false:=by decide) (he:starEach (e::es) X.env=(false,eval e X.env)::starEach es X.env:=by rfl) (hpl:(backTo pos (starEach es X.env)).any (·.1)=false:=by rfl) :
  PE X (.Call (.Name x p) (e::es) [] pos) (ub j f sp E t):=by
 intro pins s σ H Q I ⟨h1,h2⟩
 obtain⟨oc,od,sl,lk⟩:=lk
 have fa:∀ {h:Heap},X.K.In h→PySem.W.FnAt f h:=fun {h} z=>⟨oc,od,fd,sl,z _ _ lk⟩
 refine wpAny_Call_Name_kw (thn (cL (i:=j) hN hv hdb hcd pins s σ H (fun v H'=>v=.ref f∧H'=H) I ⟨_,h1,rfl,rfl⟩) fun u s1 ⟨v,H',I1,rv,e1,e2⟩=>?_)
 subst e1;subst e2
 obtain rfl:u=.ref f:=rv
 exact PySem.W.callWith_F (fa I1.kIn) (thn (ha pos pins s1 σ _ _ I1 h2) fun us s2 ⟨vs,H2,I2,r,z⟩=>⟨fa I2.kIn,ui F hr hb .nil hx I2 r z⟩) he hpl
end
end L2
namespace L3
open PySem L2 PySem.Spec PyProof.Rows
section
variable {K:PySem.W.Frag} {X:Cx} {B:Bs} {F0:Hp} {x:Str} {f:Addr} {p pos:Pos} {e:Expr} {es:List Expr} {t:TA} {t3:cq} {k j n:Nat} {fd:FuncData} {ps:List Str} {CX:CXT} {S:S3X} {E:L2.St→XK} {W:XD→G→Prop}
def jL (j n:Nat) (f:Addr) (S:S3X) (t3:cq) (W:XD→G→Prop) (Γ:G) (Q:RV→G→Prop):Prop:=Γ[j]?=some (some (.fz (.adr f)))∧qM n S t3 W Γ Q
theorem qX {y q:Str} {st:Stmt} (hK:X.K=K) (xr:XR K B F0 E W) (Fn:Fun X.K y q st f fd) (F:aM X.prog X.w X.K X.mg X.base CX k f fd ps (mX K n S)) (hx:dH CX X E) (hr:bO k X.A) (hb:Binds X.K fd ps []) (hN:X.N[j]?=some x) (hv:Vis X.env.scope x) (ha:oy K X (e::es) t t3)
  (hdb:(x == ("__debug__":Str))=false:=by decide) (hcd:(x == ("__classdict__":Str))=false:=by decide) (he:starEach (e::es) X.env=(false,eval e X.env)::starEach es X.env:=by rfl) (hpl:(backTo pos (starEach es X.env)).any (·.1)=false:=by rfl) :
  P3X K X B F0 (.Call (.Name x p) (e::es) [] pos) (ub j f (mX K n S) E t) (jL j n f S t3 W):=
 ⟨vI (by obtain⟨oc,od,_,_,_,_,_,_,sl,_,lk,_⟩:=Fn.ex;exact⟨oc,od,sl,lk⟩) F hx hr hb hN hv ha.pe hdb hcd he hpl,by
  intro F σ H Γ Q QQ w en ⟨hi,q⟩ kk
  obtain⟨y,hy,ry⟩:=en.fz j _ hi
  obtain rfl:y=.ref f:=ry
  exact⟨hy,oN ha.rf xr F σ H Γ Q QQ w en q kk⟩⟩
theorem P3X.or {e:Expr} {t t':TE} {a3 b3:TE3} (h:P3X K X B F0 e t a3) (h':P3X K X B F0 e t' b3):P3X K X B F0 e (fun σ H Q=>t σ H Q∨t' σ H Q) (fun Γ Q=>a3 Γ Q∨b3 Γ Q):=
 ⟨fun pins s σ H Q I q=>q.elim (h.pe pins s σ H Q I) (h'.pe pins s σ H Q I),fun F σ H Γ Q QQ w en q k=>q.elim (fun q=>.inl (h.rf F σ H Γ Q QQ w en q k)) fun q=>.inr (h'.rf F σ H Γ Q QQ w en q k)⟩
end
end L3
namespace L2
open PySem PySem.Spec PySem.SeqAt
open AutoSeq1 (wpAny_loadPart')
open MeetsSeq
structure EqO (K:PySem.W.Frag) (C:Addr):Prop where
 s:PySem.W.mroIn K C (.type "str")=some false
 f:PySem.W.findIn K (.ref C) "__eq__"=some (some (.builtin "object.__eq__"))
 o:PySem.W.mroIn K C (.type "object")=some true
theorem r8 (b:Str) (u:Tok) (l:Addr) (c:Value) (es:Array DictEntry) (n:Nat) (dd:Option Addr) (sl:Array (Option Value)) :
  Meets (Builtin.«str.__eq__» ⟨[.str b u,.ref l],[]⟩) (fun _ R s=>s.heap.get? l=some { cls:=c,dict:=dd,data:=.dict es n,slots:=sl }∧R (.ok (.ret .notImplemented)) s):=
 .of_wp fun prog w A R s h=>by obtain⟨hp,g,d,tk,os⟩:=s;obtain⟨hl,h⟩:=h;wp_walk using wpAny_loadPart' hl,wpAny_load hl;exact⟨_,rfl,h⟩
section
variable {K:PySem.W.Frag} {A:Around} {s:Shared} {x C dx:Addr}
theorem rZ (b:Str) (u:Tok):Meets (Builtin.«str.__eq__» ⟨[.str b u,.ref x],[]⟩) (fun _ R s=>s.heap.get? x=some (PySem.W.instObj C dx)∧R (.ok (.ret .notImplemented)) s):=
 .of_wp fun prog w A R s h=>by obtain⟨hp,g,d,tk,os⟩:=s;obtain⟨hl,h⟩:=h;unfold PySem.W.instObj at hl;wp_walk using wpAny_loadPart' hl,wpAny_load hl;exact⟨_,rfl,h⟩
theorem yZ {prog:Program} {w:World} {E:Value→Shared→Prop} {b:Str} {u:Tok} {ox:Obj} {od:Option Obj} {Q:Value→Shared→Prop} (X:K.In s.heap) (I:PySem.W.InstAt s.heap x ox C od) (c:EqO K C) (h:Q .notImplemented s) :
  wpAny (model prog w) A (call (.builtin "object.__eq__") [.ref x,.str b u]) Q E s:=by
 refine wpAny_call (codeAny_call_builtin F.cmp_object.eq.plain F.cmpEntry_eq ?_)
 simp only[checkBuiltinCall,F.cmpKind_eq,F.cmpSplit_eq]
 refine wpAny_bind ?_
 unfold isInstance
 refine wpAny_bind (I.type.here ((PySem.W.looks_mroIn X c.o).here ?_))
 have ha:=F.cmpArgs_eq (.ref x) (.str b u)
 simp only[Bool.not_true,Bool.false_eq_true,if_false]
 have fin:∀ {P:Fin→Shared→Prop} {Y:Value→Shared→Prop} {A':Around},P (.done (.ret .notImplemented)) s→wpAny (model prog w) A' (Builtin.«object.__eq__» ⟨[.ref x,.str b u],[]⟩) P Y s:=fun {P Y A'} q=>by
  unfold Builtin.«object.__eq__»
  wp_walk
  exact q
 cases hsig:Manifest.signature? "object.__eq__" with
 | none=>exact wpAny_pure (fin h)
 | some sig=>
  simp only[argsOk,hsig] at ha
  have h2:Bind.checkArgs "object.__eq__" sig ⟨[.ref x,.str b u],[]⟩=pure ():=ha
  show wpAny _ _ (Bind.checkArgs "object.__eq__" sig ⟨[.ref x,.str b u],[]⟩) _ _ _
  rw[h2]
  exact wpAny_pure (fin h)
theorem zr {prog:Program} {w:World} {E:Value→Shared→Prop} {b:Str} {u:Tok} {ox:Obj} {od:Option Obj} {Q:Option Value→Shared→Prop} (X:K.In s.heap) (I:PySem.W.InstAt s.heap x ox C od) (c:EqO K C) (h:Q none s) :
  wpAny (model prog w) A (tryCompare (.ref x) "__eq__" (.str b u)) Q E s:=by
 unfold tryCompare
 simp only[callSpecialIfBound?,bindSpecialIfBound?]
 refine wpAny_bind (wpAny_holding (wpAny_bind (wpAny_bind (wpAny_bind (I.type.here ((PySem.W.looks_findIn X c.f).here ?_))))))
 refine wpAny_bind (wpAny_askSetting (wpAny_ite ?_))
 have e0:bindSpecial (.builtin "object.__eq__") (.ref x)=pure (.builtin "object.__eq__",[.ref x]):=F.cmp_object.eq.bind (.ref x)
 have fin:∀ {Y:Option Value→Shared→Prop},Y (some .notImplemented) s→wpAny (model prog w) A (call (.builtin "object.__eq__") ([.ref x]++[.str b u]) >>= fun v=>pure (some v)) Y E s:=fun {Y} q=>wpAny_bind (yZ X I c (wpAny_pure q))
 split
 ·rw[e0]
  exact wpAny_bind (wpAny_pure (wpAny_pure (fin (wpAny_pure h))))
 ·rw[e0]
  exact wpAny_tryCatch (wpAny_bind (wpAny_pure (wpAny_pure (fin (wpAny_pure h)))))
theorem rA {b:Str} {u:Tok} {od:Option Obj} (X:K.In s.heap) (I:PySem.W.InstAt s.heap x (PySem.W.instObj C dx) C od) (c:EqO K C) (hu:A.units < cLine):RcAt A s (.str b u) (.ref x) false:=fun prog w E Q h=>by
 have ha:=typeIs_str s b u
 rcases hi:cmpInfo CmpOp.Eq with ⟨sym,f,r⟩
 have e1:f="__eq__":=by have:=congrArg (·.2.1) hi;exact this.symm
 have e2:r="__eq__":=by have:=congrArg (·.2.2) hi;exact this.symm
 subst e1;subst e2
 simp only[richCompare,hi,ha.oneThing_none]
 try with_reducible refine wpAny_holding ?_
 refine wpAny_bind (wpAny_cRoomFor_or (.inr hu) ?_)
 refine wpAny_bind (wpAny_typeOf ha (wpAny_bind (I.type.here ?_)))
 have hne:(Value.type "str" != Value.ref C)=true:=by rfl
 simp only[hne,if_true]
 refine wpAny_bind ((PySem.W.looks_mroIn X c.s).here ?_)
 simp only[Bool.false_eq_true,if_false,Bool.not_false,if_true]
 refine wpAny_bind (m:=tryCompare (.str b u) _ (.ref x)) (wpAny_tryCompare_declines ha F.slot_str_eq (call_meets F.slot_str_eq ha F.entry_str_eq (F.args_str_eq_2 _ _) (rZ b u) ⟨I.at_,rfl,?_⟩))
 refine wpAny_bind (m:=tryCompare (.ref x) _ (.str b u)) (zr X I c ?_)
 exact wpAny_bind (wpAny_rule (wpAny_bind (wpAny_of_eq (rfl:isSame (.str b u) (.ref x)=pure false) (wpAny_pure h))))
end
end L2
namespace L2
open PySem PySem.Spec PySem.SeqAt
open AutoSeq1 (wpAny_loadPart')
open MeetsSeq
theorem n_:isSubtype (.type "str") (.type "dict")=pure false:=by rw[isSubtype_type];kernel_rfl
theorem qF (l:Addr) (es:Array DictEntry) (n:Nat) (b:Str) (u:Tok) :
  Meets (Builtin.«dict.__eq__» ⟨[.ref l,.str b u],[]⟩) (fun _ R s=>s.heap.get? l=some { cls:=.type "dict",dict:=none,data:=.dict es n,slots:=#[] }∧R (.ok (.ret .notImplemented)) s):=
 .of_wp fun prog w A R s h=>by obtain⟨hp,g,d,tk,os⟩:=s;obtain⟨hl,h⟩:=h;have f1:=n_;wp_walk using wpAny_loadPart' hl;exact⟨_,rfl,h⟩
section
variable {A:Around} {s:Shared}
theorem rB {l:Addr} {es:Array DictEntry} {n:Nat} (b:Str) (u:Tok) (ho:s.heap.get? l=some { cls:=.type "dict",dict:=none,data:=.dict es n,slots:=#[] }) (hu:A.units < cLine):RcAt A s (.str b u) (.ref l) false:=fun prog w E Q h=>
 rc_eq_decline_or (k:=false) (typeIs_str s b u) ⟨_,ho,rfl⟩ (by decide) F.sub_dict_str F.slot_str_eq F.slot_dict_eq_refl
  (fun _ hq=>call_meets F.slot_str_eq (typeIs_str s b u) F.entry_str_eq (F.args_str_eq_2 _ _) (r8 b u l (.type "dict") es n none #[]) ⟨ho,hq⟩)
  (fun _ hq=>call_meets F.slot_dict_eq_refl ⟨_,ho,rfl⟩ F.entry_dict_eq (F.args_dict_eq_2 _ _) (qF l es n b u) ⟨ho,hq⟩)
  (fun _ hq=>wpAny_of_eq (rfl:isSame (.str b u) (.ref l)=pure false) hq) (.inr hu) h
end
end L2
namespace L3
open PySem L2 PySem.Spec PySem.SeqAt
section
variable {K:PySem.W.Frag} {X:Cx} {Cs:List Addr}
def eqT (Cs:List Addr):D→D→Option Bool
 | .str a,.str b=>some (a == b)
 | .str _,.non=>some false
 | .str _,.bl _=>some false
 | .str _,.int _=>some false
 | .str _,.lst _=>some false
 | .str _,.tup _=>some false
 | .str _,.obj _ none=>some false
 | .str _,.obj _ (some C)=>if Cs.contains C then some false else none
 | _,_=>none
def EJ (K:PySem.W.Frag) (Cs:List Addr):R2:=fun x y H Q=>∃ F d d' k,aG F H∧gf K F H d x∧gf K F H d' y∧eqT Cs d d'=some k∧Q (.bl k) H
theorem Dp (hK:X.K=K) (hC:∀ C∈Cs,EqO K C) (hu:X.A.units < cLine):OpR X (compareOp .Eq) (EJ K Cs):=by
 intro pins s σ H x y v u Q I rx ry h
 obtain⟨F,d,d',k,sm,r,r',e,q⟩:=h
 have fin:RcAt X.A s v u k:=by
  unfold eqT at e
  split at e
  ·cases r;cases r';cases e;obtain⟨t,rfl⟩:=rx;obtain⟨t',rfl⟩:=ry;exact .str_str _ _ _ _
  ·cases r;cases r';cases e;obtain⟨t,rfl⟩:=rx;cases ry;exact .str_none _ _
  ·cases r;cases r';cases e;obtain⟨t,rfl⟩:=rx;cases ry;exact .str_bool _ _ _
  ·cases r;cases r';cases e;obtain⟨t,rfl⟩:=rx;obtain⟨t',rfl⟩:=ry;exact .str_int _ _ _ _
  ·cases r;cases e;obtain⟨t,rfl⟩:=rx
   obtain⟨p,vs,rfl,g,_⟩:=r'
   cases ry
   obtain⟨us,_,l⟩:=nH I g
   exact .str_list _ _ l hu
  ·cases r;cases e;obtain⟨t,rfl⟩:=rx
   obtain⟨p,vs,rfl,g,_⟩:=r'
   cases ry
   obtain⟨us,_,l⟩:=ki I (sm _ _ g)
   exact .str_tuple _ _ l hu
  ·cases r;cases e;obtain⟨t,rfl⟩:=rx
   obtain⟨rfl,g⟩:=r'
   cases ry
   obtain⟨_,_,vs,_,o,es,ep,ho,⟨hc,hd,hs⟩,hdt,_⟩:=FG I.hok (sm _ _ g)
   obtain⟨c1,c2,c3,c4⟩:=o
   dsimp only at hc hd hs hdt
   subst hc hd hs hdt
   exact rB _ _ ho hu
  ·split at e
   ·rename_i hm
    cases r;cases e;obtain⟨t,rfl⟩:=rx
    obtain⟨rfl,dx,g⟩:=r'
    cases ry
    obtain⟨mA,O,_⟩:=qx I.hok (sm _ _ g)
    obtain⟨od,io,_⟩:=O.look
    subst hK
    exact rA I.kIn io (hC _ (by simpa using hm)) hu
   ·cases e
  ·cases e
 exact fin _ _ _ _ (nL I q rfl)
def GX (Cs:List Addr) (x y:D) (Γ:G) (Q:RV→G→Prop):Prop:=∃ k,eqT Cs x y=some k∧Q (.fz (.bl k)) Γ
theorem za (hK:X.K=K) (hC:∀ C∈Cs,EqO K C) {k:Nat} (hr:bO k X.A):C3 K X .Eq (EJ K Cs) (GX Cs):=⟨Dp hK hC (by have:=hr.un;omega),by
 intro B F σ H Γ x y dx dy Q QQ e rx ry q k
 obtain⟨b,hb,q⟩:=q
 exact⟨F,dx,dy,b,e.sub,rx,ry,hb,k _ _ (iC e q)⟩⟩
structure qW (K:PySem.W.Frag) (t:String) (C:Addr):Prop where
 cl:Cls K C
 ha:PySem.W.findIn K (.ref C) "__class__"=some (some (.builtin "object.__class__"))
 hn:PySem.W.specialIn K (.builtin "object.__class__") "__get__"=some (some (.builtin "getset_descriptor.__get__"))
 ht:PySem.W.takesIn K (.builtin "object.__class__")=some true
 hm:PySem.W.mroIn K C (.type "object")=some true
 k:PySem.W.kitOne K (.ref C) (.type t)=some false
def qw (Cs:List Addr) (t:String) (f:D→Bool) (ds:List D) (Γ:G) (Q:RV→G→Prop):Prop:=match ds with
 | [.obj _ c,.ty t']=>t'=t∧(∀ C,c=some C→C∈Cs)∧Q (.fz (.bl false)) Γ
 | ds=>is3 t f ds Γ Q
theorem vd {t:String} {f:D→Bool} {r:List V→Hp→VK→Prop} (h:B3 K X (.builtin "isinstance") r (is3 t f)) (hK:X.K=K) (hC:∀ C∈Cs,qW K t C) (hd:PySem.W.kitOne K (.type "dict") (.type t)=some false) :
  B3 K X (.builtin "isinstance") (fun xs H Q=>r xs H Q∨∃ x c t b,xs=[x,c]∧kv K H x t∧isC c=true∧PySem.W.kitOne K t (vv c)=some b∧Q (.bl b) H) (qw Cs t f):=⟨dM.or' h.op (by subst hK;exact y7),by
 intro B F σ H Γ vs ds Q QQ e rr q k
 unfold qw at q
 split at q
 ·obtain⟨rfl,hc,q⟩:=q
  obtain⟨v,w,rfl,h1,h2⟩:=rr.two
  cases h2
  rename_i p c t1
  obtain⟨rfl,g⟩:=h1
  cases c with
  | none=>exact .inr ⟨_,_,_,false,rfl,.dK (e.sub _ _ g),rfl,hd,k _ _ (iC e q)⟩
  | some C=>
   obtain⟨dx,g⟩:=g
   have i:=hC C (hc C rfl)
   exact .inr ⟨_,_,_,false,rfl,.ins (e.sub _ _ g) i.cl i.ha i.hn i.ht i.hm,rfl,i.k,k _ _ (iC e q)⟩
 ·exact .inl (h.rf B F σ H Γ vs ds Q QQ e rr q k)⟩
end
end L3
namespace L3
open PySem L2 PySem.Spec
section
variable {K:PySem.W.Frag} {X:Cx} {B:Bs} {F F':Hp} {σ:L2.St} {H H':Hp} {Γ:G} {c:Expr} {tc:TT} {A3:TT3}
theorem aA.flat:∀ {ns:List Int} {vs:List V},aA K F (ns.map D.int) vs→aA K F' (ns.map D.int) vs
 | [],_,h=>h
 | n::ns,_,⟨v,ws,h1,h2,h3⟩=>⟨v,ws,h1,h2,aA.flat h3⟩
def B_ (Γ:G):Prop:=∀ (k:Nat) (d:D),Hld Γ k d→∃ ns:List Int,d=.lst (ns.map D.int)
def tfT (i:Nat) (A3:TT3) (Γ:G) (Q:Bool→G→Prop):Prop:=∃ ns:List Int,Γ[i]?=some (some (.ow (.lst (ns.map D.int))))∧B_ Γ∧A3 (Γ.set i (some (.fz (.lst (ns.map D.int))))) fun b Γ2=>Γ2=Γ.set i (some (.fz (.lst (ns.map D.int))))∧Q b Γ
theorem C6 (i:Nat) (h:P3T K X c tc A3):P3T K X c tc (tfT i A3):=⟨h.pe,by
 intro B F σ H Γ Q QQ e q kk
 obtain⟨ns,hi,fl,q⟩:=q
 obtain⟨F1,p,s1,hp,rp,e1⟩:=e.give hi
 refine h.rf B F1 σ H _ _ _ e1 q fun b H2 ⟨F2,Γ2,s2,e2,hΓ,q2⟩=>kk b H2 ⟨F,Γ,aG.refl F,?_,q2⟩
 subst hΓ
 have sub:aG F H2:=(s1.trans s2).trans e2.sub
 refine⟨sub,e.len,e.fz,fun k d hd=>?_,e.ow,e.ln,e.dis,e.par,e.keep,e.new,e2.rest,e2.dom⟩
 obtain⟨ms,rfl⟩:=fl k d hd
 obtain⟨r,hr,hF,vs,hH,hv⟩:=e.hl k _ hd
 refine⟨r,hr,hF,?_⟩
 by_cases z:k=i
 ·subst z
  rw[hp] at hr;cases hr
  obtain⟨p',us,z1,z2,z3⟩:=rp
  cases z1
  have:H p=some (.lst us):=e1.sub _ _ z2
  rw[hH] at this
  cases this
  exact⟨vs,e2.sub _ _ (s2 _ _ z2),hv⟩
 ·have hd2:Hld (Γ.set i (some (Sl.fz (.lst (ns.map D.int))))) k (.lst (ms.map D.int)):=by unfold Hld at hd ⊢;rw[bW (Ne.symm z)];exact hd
  obtain⟨r',hr',_,us,hH',hv'⟩:=e2.hl k _ hd2
  rw[hr] at hr';cases hr'
  exact⟨us,hH',hv'.flat⟩⟩
end
end L3
set_option maxHeartbeats 4000000
namespace K31
open PySem L2 L3
def fw (b:Option D):Option Sl:=b.map Sl.ow
theorem yz {s:Option D} {Γ:G}:bM (fw s::Γ) 0=True:=by cases s <;> rfl
theorem Gd {n:Option D}:jx n none=none:=rfl
theorem FZ {n:Option D} {d:D}:jx n (some (.fz d))=some (.fz d):=rfl
theorem F_ {n:Option D} {d:D}:jx n (some (.ow d))=some (.ow (n.getD d)):=rfl
theorem Ge {n:Option D} {d:D}:jx n (some (.ln d))=some (.ln (n.getD d)):=rfl
theorem Gb {n:Option D} {s:Option D}:jx n (fo s)=fo s:=by cases s <;> rfl
theorem Ga {n:Option D} {s:Option D}:jx n (fw s)=fw (s.map fun d=>n.getD d):=by cases s <;> rfl
theorem FA {i3:TI3} {g3:TG3} {b3:TS3} {D:E3} {Γ:G} {t1:Tag (i3,g3,b3)} {t2:Tag D}:DQ i3 g3 b3 D Γ t1 t2=(i3 Γ fun xs Γ1=>∃ Iv:Nat→G→Prop,Iv 0 Γ1∧(∀ k d Γ,xs[k]?=some d→Iv k Γ→g3 d Γ fun Γ'=>b3 { D with nx:=Iv (k + 1),ct:=Iv (k + 1),bk:=D.nx } Γ')∧∀ Γ,Iv xs.length Γ→D.nx Γ):=rfl
theorem al4 {p:Addr→Prop} {x y z v:Addr} (h1:p x) (h2:p y) (h3:p z) (h4:p v):∀ C∈[x,y,z,v],p C:=fun C hC=>by
 simp only[List.mem_cons,List.not_mem_nil,or_false] at hC
 rcases hC with rfl | rfl | rfl | rfl
 ·exact h1
 ·exact h2
 ·exact h3
 ·exact h4
section
variable {Cs:List Addr} {t t':String} {f:D→Bool} {Γ:G} {Q:RV→G→Prop}
theorem Bn {p:Addr} {c:Option Addr}:qw Cs t f [.obj p c,.ty t'] Γ Q=(t'=t∧(∀ C,c=some C→C∈Cs)∧Q (.fz (.bl false)) Γ):=rfl
theorem Bp:qw Cs t f [.non,.ty t'] Γ Q=is3 t f [.non,.ty t'] Γ Q:=rfl
theorem Bt {b:Bool}:qw Cs t f [.bl b,.ty t'] Γ Q=is3 t f [.bl b,.ty t'] Γ Q:=rfl
theorem Br {b:Int}:qw Cs t f [.int b,.ty t'] Γ Q=is3 t f [.int b,.ty t'] Γ Q:=rfl
theorem Bm {b:Str}:qw Cs t f [.str b,.ty t'] Γ Q=is3 t f [.str b,.ty t'] Γ Q:=rfl
theorem Bq {b:List D}:qw Cs t f [.lst b,.ty t'] Γ Q=is3 t f [.lst b,.ty t'] Γ Q:=rfl
theorem Bl {b:List D}:qw Cs t f [.tup b,.ty t'] Γ Q=is3 t f [.tup b,.ty t'] Γ Q:=rfl
end
def mkL(s:String):Lean.MacroM (Array (Lean.TSyntax [`Lean.Parser.Tactic.simpStar,`Lean.Parser.Tactic.simpErase,`Lean.Parser.Tactic.simpLemma])):=do
 let mut xs:=#[]
 for w in s.splitOn " " do
  let n:=(w.dropWhile (·=='↓')).toString.toName
  let i:=match (←Lean.Macro.resolveGlobalName n) with
   |(c,[])::_=>Lean.mkCIdent c
   |_=>Lean.mkIdent n
  let t←if w.startsWith "↓" then `(Lean.Parser.Tactic.simpLemma|↓$i:ident) else `(Lean.Parser.Tactic.simpLemma|$i:ident)
  xs:=xs.push ⟨t.raw⟩
 return xs
local macro_rules | `(tactic| walk_at "m2")=>do `(tactic| try simp -dsimp only [$(←mkL "gH Bn Bp Bt Br Bm Bq Bl List.length_cons List.length_nil Nat.reduceAdd Nat.reduceSub Nat.zero_add List.replicate List.cons_append List.nil_append List.append_nil ↓BE ↓yn ↓BD ↓BF ↓yo ↓BJ ↓Gf ↓Gg ↓FV ↓FW EV ↓yi ↓wO ↓wN kA ↓BL ↓BM ↓u_ ↓uM ↓ym ↓yg ↓Fw ↓Fv ↓yp ↓BH ↓h_c q8 wQ ↓BB ↓BO ↓Fu ↓BG zg EX ↓BI ↓BA Gat Bo.at ats RV.d RV.sl zi i2 i2' wa ↓Bj ↓Bi uF uD uC uE Ao x9 mx3 Gi Fm Aj yA yC yx yy yB sl3 Cv ↓yl ↓yh Bf tI wH is3 knD dB dI dL dT ↓BN Ba beq_self_eq_true i28 um BU List.zip_cons_cons List.lookup_cons List.lookup_nil ↓ug rK uL ↓xZ uP ↓Bv uA dS Cw RV.fz.injEq ↓ue cj putD tgN tgT gives frees iL3 iR1 iZ3 iE3 lz3 Gh ↓u9 ↓u5 ↓se ↓yD List.isEmpty_nil List.isEmpty_cons ↓yq ↓uO yK yL ↓BK ↓xX eK qT iP eM cn List.map_cons List.map_nil Option.bind_some Option.bind_none List.nodup_nil List.nodup_cons List.getElem?_cons_zero List.getElem?_cons_succ List.getElem?_nil List.set_cons_zero List.set_cons_succ exists_eq_left' exists_eq_left exists_eq' exists_eq exists_and_left exists_and_right Option.some.injEq D.int.injEq D.lst.injEq D.str.injEq D.tup.injEq D.bl.injEq D.ins.injEq D.ty.injEq List.cons.injEq and_true true_and and_false false_and true_or false_or or_false or_true and_assoc List.not_mem_nil not_false_eq_true n8 pb zd yO yM BX BY nQ Bool.false_xor Bool.not_true Bool.not_false Bool.true_xor gP List.mapIdx_cons List.mapIdx_nil vh pE n5 sv uG rQ rP Nat.reduceLT decide_true sk sq sr ite_self newD Option.getD_some Option.getD_none B9 B8 B7 B6 yc yb ya if_pos if_true if_false List.all_cons List.all_nil Option.isNone_none Bool.and_true Bool.true_and decide_eq_true_eq not_true not_false_iff reduceCtorEq eq_self Bool.false_eq_true reduceIte Int.reduceEq Gd FZ F_ Ge Gb Ga yz Ej AR frL A8 iT3 Nat.reduceEqDiff Bu Fo Fj ↓fz3 D.exc.injEq D.adr.injEq w9 w5 wJ ↓uZ ↓uN ↓yk zh wZ Ei ↓yr ↓yj ↓Ft ↓BC Es iR2 Fp ext3 Ed Bb"),*])
def top (i:Nat):Stmt:=PySem.Challenge.pw_halvedpictures_k31_spreads_of_rows.main.body.getD i (.Pass ⟨0,0,0,0⟩)
abbrev b_:Stmt:=inClass (top 1) 0
abbrev cV:Stmt:=inClass (top 2) 0
abbrev cK:Stmt:=inClass (top 3) 0
abbrev dm:Stmt:=inClass (top 6) 0
abbrev j_:Stmt:=top 10
abbrev i7:Stmt:=inClass (top 17) 0
abbrev gN:Stmt:=inClass (top 18) 0
abbrev fJ:Stmt:=inClass (top 25) 0
abbrev fI:Stmt:=inClass (top 26) 0
abbrev iZ:Stmt:=top 27
abbrev lz:Stmt:=top 28
abbrev iY:Stmt:=top 30
abbrev mG:Stmt:=top 31
abbrev lA:Stmt:=top 32
abbrev hZ:Stmt:=top 33
abbrev iX:Stmt:=top 34
abbrev eJ:Stmt:=top 35
abbrev cC:Stmt:=top 36
abbrev cD:Stmt:=top 37
abbrev bA:Stmt:=top 38
abbrev gJ:Stmt:=top 39
abbrev fE:Stmt:=top 40
abbrev h_:Stmt:=top 41
abbrev fG:Stmt:=top 42
abbrev fF:Stmt:=top 45
abbrev cJ:Stmt:=top 46
abbrev dk:Stmt:=top 47
abbrev m6:Stmt:=top 48
abbrev gK:Stmt:=top 49
abbrev i6:Stmt:=top 51
abbrev gM:Stmt:=top 52
abbrev i5:Stmt:=top 53
abbrev aS:Stmt:=top 54
abbrev aT:Stmt:=top 55
abbrev ij:Stmt:=top 56
abbrev ig:Stmt:=top 57
abbrev d_:Stmt:=top 58
abbrev eV:Stmt:=top 59
abbrev i4:Stmt:=top 60
abbrev fH:Stmt:=top 61
abbrev uh:Stmt:=top 62
theorem gU:av ["self","words"] ["self","words"] (ag b_):=⟨rfl,rfl,rfl,by decide +kernel,rfl,by decide +kernel,by decide +kernel⟩
theorem jM:av ["self","found"] ["self","found"] (ag cV):=⟨rfl,rfl,rfl,by decide +kernel,rfl,by decide +kernel,by decide +kernel⟩
theorem iW:av ["self","found"] ["self","found"] (ag cK):=⟨rfl,rfl,rfl,by decide +kernel,rfl,by decide +kernel,by decide +kernel⟩
theorem j9:av ["self","found"] ["self","found"] (ag dm):=⟨rfl,rfl,rfl,by decide +kernel,rfl,by decide +kernel,by decide +kernel⟩
theorem rg:av ["thing","low","high"] ["thing","low","high"] (ag j_):=⟨rfl,rfl,rfl,by decide +kernel,rfl,by decide +kernel,by decide +kernel⟩
theorem p7:av ["self"] ["self"] (ag i7):=⟨rfl,rfl,rfl,by decide +kernel,rfl,by decide +kernel,by decide +kernel⟩
theorem m5:av ["self"] ["self"] (ag gN):=⟨rfl,rfl,rfl,by decide +kernel,rfl,by decide +kernel,by decide +kernel⟩
theorem mn:av ["self"] ["self"] (ag fJ):=⟨rfl,rfl,rfl,by decide +kernel,rfl,by decide +kernel,by decide +kernel⟩
theorem mm:av ["self"] ["self"] (ag fI):=⟨rfl,rfl,rfl,by decide +kernel,rfl,by decide +kernel,by decide +kernel⟩
theorem p5:av [] [] (ag iZ):=⟨rfl,rfl,rfl,by decide +kernel,rfl,by decide +kernel,by decide +kernel⟩
theorem hV:av ["word","rule"] ["word"] (ag lz):=⟨rfl,rfl,rfl,by decide +kernel,rfl,by decide +kernel,by decide +kernel⟩
theorem p4:av ["many"] ["many"] (ag iY):=⟨rfl,rfl,rfl,by decide +kernel,rfl,by decide +kernel,by decide +kernel⟩
theorem wY:av ["numbers","many"] ["numbers","many"] (ag mG):=⟨rfl,rfl,rfl,by decide +kernel,rfl,by decide +kernel,by decide +kernel⟩
def n0:Scope:={ kind:=.function,names:=[(".0",.local),("number",.local),("many",.free)],isGenerator:=false,isCoroutine:=false,more:=[] }
theorem md:Blk ["numbers","many"] (ag mG) n0 ["number","many"] [none,some 1]:=⟨rfl,by decide +kernel,by decide +kernel,by decide +kernel,by decide +kernel,rfl,by decide +kernel⟩
theorem sS:av ["many","at"] ["many","at"] (ag lA):=⟨rfl,rfl,rfl,by decide +kernel,rfl,by decide +kernel,by decide +kernel⟩
theorem og:av ["many","at"] ["many","at"] (ag hZ):=⟨rfl,rfl,rfl,by decide +kernel,rfl,by decide +kernel,by decide +kernel⟩
theorem p3:av ["many","place"] ["many","place"] (ag iX):=⟨rfl,rfl,rfl,by decide +kernel,rfl,by decide +kernel,by decide +kernel⟩
theorem lx:av ["many","place"] ["many","place"] (ag eJ):=⟨rfl,rfl,rfl,by decide +kernel,rfl,by decide +kernel,by decide +kernel⟩
theorem dh:av ["many","place","at","sums"] ["many","place"] (ag cC):=⟨rfl,rfl,rfl,by decide +kernel,rfl,by decide +kernel,by decide +kernel⟩
def g7:Scope:={ kind:=.function,names:=[(".0",.local),("one",.local),("hung",.local),("pair_at",.globalImplicit),("many",.free)],isGenerator:=false,isCoroutine:=false,more:=[] }
theorem cz:Blk ["many","place","at","sums"] (ag cC) g7 ["one","hung","many"] [none,none,some 0]:=⟨rfl,by decide +kernel,by decide +kernel,by decide +kernel,by decide +kernel,rfl,by decide +kernel⟩
theorem dj:av ["many","place","at","differences"] ["many","place"] (ag cD):=⟨rfl,rfl,rfl,by decide +kernel,rfl,by decide +kernel,by decide +kernel⟩
def g8:Scope:={ kind:=.function,names:=[(".0",.local),("one",.local),("hung",.local),("guessed_at",.globalImplicit),("many",.free)],isGenerator:=false,isCoroutine:=false,more:=[] }
theorem cA:Blk ["many","place","at","differences"] (ag cD) g8 ["one","hung","many"] [none,none,some 0]:=⟨rfl,by decide +kernel,by decide +kernel,by decide +kernel,by decide +kernel,rfl,by decide +kernel⟩
theorem gI:av ["many","numbers"] ["many","numbers"] (ag bA):=⟨rfl,rfl,rfl,by decide +kernel,rfl,by decide +kernel,by decide +kernel⟩
def dU:Scope:={ kind:=.function,names:=[(".0",.local),("number",.local),("many_sums",.globalImplicit),("many",.free)],isGenerator:=false,isCoroutine:=false,more:=[] }
theorem cp:Blk ["many","numbers"] (ag bA) dU ["number","many"] [none,some 0]:=⟨rfl,by decide +kernel,by decide +kernel,by decide +kernel,by decide +kernel,rfl,by decide +kernel⟩
theorem iU:av ["many","place","at"] ["many","place"] (ag gJ):=⟨rfl,rfl,rfl,by decide +kernel,rfl,by decide +kernel,by decide +kernel⟩
theorem iA:av ["many","place","at"] ["many","place"] (ag fE):=⟨rfl,rfl,rfl,by decide +kernel,rfl,by decide +kernel,by decide +kernel⟩
theorem oh:av ["many","at"] ["many","at"] (ag h_):=⟨rfl,rfl,rfl,by decide +kernel,rfl,by decide +kernel,by decide +kernel⟩
theorem eI:av ["many","place","at","places"] ["many","place"] (ag fG):=⟨rfl,rfl,rfl,by decide +kernel,rfl,by decide +kernel,by decide +kernel⟩
theorem iB:av ["word","many","place","deed"] ["word","many","place"] (ag fF):=⟨rfl,rfl,rfl,by decide +kernel,rfl,by decide +kernel,by decide +kernel⟩
theorem ej:av ["word","many","place","deed"] ["word","many","place"] (ag cJ):=⟨rfl,rfl,rfl,by decide +kernel,rfl,by decide +kernel,by decide +kernel⟩
theorem fA:av ["word","many","place"] ["word","many","place"] (ag dk):=⟨rfl,rfl,rfl,by decide +kernel,rfl,by decide +kernel,by decide +kernel⟩
theorem oG:av ["word","many","place"] ["word","many","place"] (ag m6):=⟨rfl,rfl,rfl,by decide +kernel,rfl,by decide +kernel,by decide +kernel⟩
theorem iV:av ["word","many","place"] ["word","many","place"] (ag gK):=⟨rfl,rfl,rfl,by decide +kernel,rfl,by decide +kernel,by decide +kernel⟩
theorem p6:av ["_law_script","_law_k"] ["_law_script","_law_k"] (ag i6):=⟨rfl,rfl,rfl,by decide +kernel,rfl,by decide +kernel,by decide +kernel⟩
theorem mZ:av ["_law_cell_here"] ["_law_cell_here"] (ag gM):=⟨rfl,rfl,rfl,by decide +kernel,rfl,by decide +kernel,by decide +kernel⟩
theorem eU:av ["_law_stream_here","_law_many","_law_digit","_law_number"] ["_law_stream_here","_law_many"] (ag i5):=⟨rfl,rfl,rfl,by decide +kernel,rfl,by decide +kernel,by decide +kernel⟩
theorem ax:av ["_law_word","_law_row","_law_many","_law_both","_law_sums","_law_firsts","_law_later","_law_fine","_law_ahead","_law_behind"] ["_law_word","_law_row"] (ag aS):=⟨rfl,rfl,rfl,by decide +kernel,rfl,by decide +kernel,by decide +kernel⟩
def fX:Scope:={ kind:=.function,names:=[(".0",.local),("_law_k",.local),("_law_ahead",.free),("_law_behind",.free),("_law_both",.free)],isGenerator:=false,isCoroutine:=false,more:=[] }
theorem c8:Blk ["_law_word","_law_row","_law_many","_law_both","_law_sums","_law_firsts","_law_later","_law_fine","_law_ahead","_law_behind"] (ag aS) fX ["_law_k","_law_ahead","_law_behind","_law_both"] [none,some 8,some 9,some 3]:=⟨rfl,by decide +kernel,by decide +kernel,by decide +kernel,by decide +kernel,rfl,by decide +kernel⟩
def fW:Scope:={ kind:=.function,names:=[(".0",.local),("_law_k",.local),("_law_ahead",.free),("_law_behind",.free),("_law_firsts",.free)],isGenerator:=false,isCoroutine:=false,more:=[] }
theorem c7:Blk ["_law_word","_law_row","_law_many","_law_both","_law_sums","_law_firsts","_law_later","_law_fine","_law_ahead","_law_behind"] (ag aS) fW ["_law_k","_law_ahead","_law_behind","_law_firsts"] [none,some 8,some 9,some 5]:=⟨rfl,by decide +kernel,by decide +kernel,by decide +kernel,by decide +kernel,rfl,by decide +kernel⟩
def fV:Scope:={ kind:=.function,names:=[(".0",.local),("_law_k",.local),("_law_both",.free),("_law_later",.free)],isGenerator:=false,isCoroutine:=false,more:=[] }
theorem c6:Blk ["_law_word","_law_row","_law_many","_law_both","_law_sums","_law_firsts","_law_later","_law_fine","_law_ahead","_law_behind"] (ag aS) fV ["_law_k","_law_both","_law_later"] [none,some 3,some 6]:=⟨rfl,by decide +kernel,by decide +kernel,by decide +kernel,by decide +kernel,rfl,by decide +kernel⟩
def fU:Scope:={ kind:=.function,names:=[(".0",.local),("_law_k",.local),("_law_row",.free)],isGenerator:=false,isCoroutine:=false,more:=[] }
theorem c5:Blk ["_law_word","_law_row","_law_many","_law_both","_law_sums","_law_firsts","_law_later","_law_fine","_law_ahead","_law_behind"] (ag aS) fU ["_law_k","_law_row"] [none,some 1]:=⟨rfl,by decide +kernel,by decide +kernel,by decide +kernel,by decide +kernel,rfl,by decide +kernel⟩
theorem ay:av ["_law_word","_law_row","_law_many","_law_sums","_law_fine","_law_ahead","_law_behind","_law_firsts","_law_later","_law_both"] ["_law_word","_law_row"] (ag aT):=⟨rfl,rfl,rfl,by decide +kernel,rfl,by decide +kernel,by decide +kernel⟩
def gb:Scope:={ kind:=.function,names:=[(".0",.local),("_law_k",.local),("_law_ahead",.free),("_law_behind",.free),("_law_both",.free)],isGenerator:=false,isCoroutine:=false,more:=[] }
theorem df:Blk ["_law_word","_law_row","_law_many","_law_sums","_law_fine","_law_ahead","_law_behind","_law_firsts","_law_later","_law_both"] (ag aT) gb ["_law_k","_law_ahead","_law_behind","_law_both"] [none,some 5,some 6,some 9]:=⟨rfl,by decide +kernel,by decide +kernel,by decide +kernel,by decide +kernel,rfl,by decide +kernel⟩
def f_:Scope:={ kind:=.function,names:=[(".0",.local),("_law_k",.local),("_law_fine",.free),("_law_sums",.free)],isGenerator:=false,isCoroutine:=false,more:=[] }
theorem de:Blk ["_law_word","_law_row","_law_many","_law_sums","_law_fine","_law_ahead","_law_behind","_law_firsts","_law_later","_law_both"] (ag aT) f_ ["_law_k","_law_fine","_law_sums"] [none,some 4,some 3]:=⟨rfl,by decide +kernel,by decide +kernel,by decide +kernel,by decide +kernel,rfl,by decide +kernel⟩
def fZ:Scope:={ kind:=.function,names:=[(".0",.local),("_law_k",.local),("_law_fine",.free),("_law_firsts",.free),("_law_later",.free)],isGenerator:=false,isCoroutine:=false,more:=[] }
theorem c_:Blk ["_law_word","_law_row","_law_many","_law_sums","_law_fine","_law_ahead","_law_behind","_law_firsts","_law_later","_law_both"] (ag aT) fZ ["_law_k","_law_fine","_law_firsts","_law_later"] [none,some 4,some 7,some 8]:=⟨rfl,by decide +kernel,by decide +kernel,by decide +kernel,by decide +kernel,rfl,by decide +kernel⟩
def fY:Scope:={ kind:=.function,names:=[(".0",.local),("_law_k",.local),("_law_ahead",.free),("_law_behind",.free),("_law_sums",.free)],isGenerator:=false,isCoroutine:=false,more:=[] }
theorem c9:Blk ["_law_word","_law_row","_law_many","_law_sums","_law_fine","_law_ahead","_law_behind","_law_firsts","_law_later","_law_both"] (ag aT) fY ["_law_k","_law_ahead","_law_behind","_law_sums"] [none,some 5,some 6,some 3]:=⟨rfl,by decide +kernel,by decide +kernel,by decide +kernel,by decide +kernel,rfl,by decide +kernel⟩
theorem dZ:av ["_law_firsts","_law_seconds","_law_found","_law_k","_law_one"] ["_law_firsts","_law_seconds"] (ag ij):=⟨rfl,rfl,rfl,by decide +kernel,rfl,by decide +kernel,by decide +kernel⟩
theorem oi:av ["_law_thing"] ["_law_thing"] (ag ig):=⟨rfl,rfl,rfl,by decide +kernel,rfl,by decide +kernel,by decide +kernel⟩
theorem m4:av ["_law_mask","_law_many"] ["_law_mask","_law_many"] (ag d_):=⟨rfl,rfl,rfl,by decide +kernel,rfl,by decide +kernel,by decide +kernel⟩
def jv:Scope:={ kind:=.function,names:=[(".0",.local),("_law_k",.local),("_law_mask",.free)],isGenerator:=false,isCoroutine:=false,more:=[] }
theorem gD:Blk ["_law_mask","_law_many"] (ag d_) jv ["_law_k","_law_mask"] [none,some 0]:=⟨rfl,by decide +kernel,by decide +kernel,by decide +kernel,by decide +kernel,rfl,by decide +kernel⟩
theorem dY:av ["_law_door","_law_word","_law_many","_law_dues","_law_place","_law_due","_law_found"] ["_law_door","_law_word","_law_many","_law_dues"] (ag eV):=⟨rfl,rfl,rfl,by decide +kernel,rfl,by decide +kernel,by decide +kernel⟩
def jP:Scope:={ kind:=.function,names:=[(".0",.local),("_law_one",.local),("_law_whole",.globalImplicit)],isGenerator:=false,isCoroutine:=false,more:=[] }
theorem g9:Blk ["_law_door","_law_word","_law_many","_law_dues","_law_place","_law_due","_law_found"] (ag eV) jP ["_law_one"] [none]:=⟨rfl,by decide +kernel,by decide +kernel,by decide +kernel,by decide +kernel,rfl,by decide +kernel⟩
theorem b9:av ["_law_door","_law_word","_law_many","_law_place","_law_found","e"] ["_law_door","_law_word","_law_many","_law_place"] (ag i4):=⟨rfl,rfl,rfl,by decide +kernel,rfl,by decide +kernel,by decide +kernel⟩
theorem aN:av ["_law_stream_here","_law_word","_law_many","_law_odd","_law_wrongs","_law_wrong","_law_size","_law_place","_law_way","_law_due","_law_things","_law_door","_law_found"] ["_law_stream_here","_law_word","_law_many"] (ag fH):=⟨rfl,rfl,rfl,by decide +kernel,rfl,by decide +kernel,by decide +kernel⟩
theorem ly:av ["_law_script","_law_k","_law_stream_here","_law_word","_law_many","_law_masks"] ["_law_script"] (ag uh):=⟨rfl,rfl,rfl,by decide +kernel,rfl,by decide +kernel,by decide +kernel⟩
def qP:Scope:={ kind:=.function,names:=[(".0",.local),("_law_k",.local)],isGenerator:=false,isCoroutine:=false,more:=[] }
theorem pq:Blk ["_law_script","_law_k","_law_stream_here","_law_word","_law_many","_law_masks"] (ag uh) qP ["_law_k"] [none]:=⟨rfl,by decide +kernel,by decide +kernel,by decide +kernel,by decide +kernel,rfl,by decide +kernel⟩
set_option genInjectivity false in
set_option genSizeOf false in
structure Ad where
 cB:Addr
 bc:Addr
 aE:Addr
 aH:Addr
 aD:Addr
 a9:Addr
 ak:Addr
 aP:Addr
 aU:Addr
 bp:Addr
 bE:Addr
 cY:FuncData
 cX:Addr
 eO:FuncData
 cN:Addr
 eF:FuncData
 dF:Addr
 fO:FuncData
 nN:Addr
 lV:FuncData
 jr:Addr
 kR:FuncData
 gR:Addr
 jn:FuncData
 fQ:Addr
 iO:FuncData
 fP:Addr
 iN:FuncData
 lY:Addr
 kN:FuncData
 lO:Addr
 km:FuncData
 lX:Addr
 kM:FuncData
 uT:Addr
 rX:FuncData
 o6:Addr
 nM:FuncData
 kS:Addr
 jV:FuncData
 lW:Addr
 kL:FuncData
 bQ:Addr
 g5:FuncData
 cG:Addr
 gA:FuncData
 cH:Addr
 gC:FuncData
 cZ:Addr
 cQ:FuncData
 cm:Addr
 jj:FuncData
 dC:Addr
 iI:FuncData
 kT:Addr
 jW:FuncData
 dD:Addr
 iK:FuncData
 jo:Addr
 iJ:FuncData
 eP:Addr
 eC:FuncData
 dE:Addr
 cW:FuncData
 eG:Addr
 lN:FuncData
 bH:Addr
 fN:FuncData
 l9:Addr
 kQ:FuncData
 j0:Addr
 jk:FuncData
 l0:Addr
 kP:FuncData
 eQ:Addr
 eD:FuncData
 eR:Addr
 eE:FuncData
 kX:Addr
 jZ:FuncData
 kU:Addr
 jX:FuncData
 j4:Addr
 jm:FuncData
 kW:Addr
 jY:FuncData
 lZ:Addr
 kO:FuncData
 jq:Addr
 iM:FuncData
 yF:Addr
 tO:FuncData
structure Txt (w:World) (K:PySem.W.Frag) (mg:Str→Option Value) (a:Ad):Prop where
 nZ:Cls K a.aE
 tD:mg "Guessed"=some (.ref a.aE)
 mk_Guessed:Mk0 K a.aE
 pj:Cls K a.aH
 vQ:mg "Halves"=some (.ref a.aH)
 mk_Halves:Mk0 K a.aH
 nY:Cls K a.aD
 tw:mg "Leaning"=some (.ref a.aD)
 mk_Leaning:Mk0 K a.aD
 u6:Cls K a.a9
 Am:mg "Sums"=some (.ref a.a9)
 mk_Sums:Mk0 K a.a9
 dA:mg "HalvedError"=some (.ref a.ak)
 gx:mg "NoNumber"=some (.ref a.aP)
 ir:mg "NoPlace"=some (.ref a.aU)
 jH:mg "NoRule"=some (.ref a.bp)
 v9:AN K w.params mg "SPREADS" a.cB [("sum",a.bQ),("half",a.bQ),("guess",a.cH),("lean",a.cG)]
 nU:AN K w.params mg "BACK_SPREADS" a.bc [("sum",a.cm),("half",a.cm),("guess",a.dD),("lean",a.dC)]
 aL:FY K "__init__" "HalvedError.__init__" b_ a.bE a.cY ["self","words"]
 ft:FY K "__init__" "NoPlace.__init__" cV a.cX a.eO ["self","found"]
 eL:FY K "__init__" "NoNumber.__init__" cK a.cN a.eF ["self","found"]
 gk:FY K "__init__" "NoRule.__init__" dm a.dF a.fO ["self","found"]
 br:FX K mg "is_whole" "is_whole" j_ a.nN a.lV ["thing","low","high"]
 iS:FY K "word" "Sums.word" i7 a.jr a.kR ["self"]
 gF:FY K "word" "Halves.word" gN a.gR a.jn ["self"]
 fv:FY K "word" "Guessed.word" fJ a.fQ a.iO ["self"]
 fu:FY K "word" "Leaning.word" fI a.fP a.iN ["self"]
 cv:FX K mg "all_rules" "all_rules" iZ a.lY a.kN []
 aY:FX K mg "rule_of" "rule_of" lz a.lO a.km ["word"]
 aF:FX K mg "many_sums" "many_sums" iY a.lX a.kM ["many"]
 bC:FX K mg "among" "among" mG a.uT a.rX ["numbers","many"]
 ck:FX K mg "pair_at" "pair_at" lA a.o6 a.nM ["many","at"]
 b6:FX K mg "guessed_at" "guessed_at" hZ a.kS a.jV ["many","at"]
 bF:FX K mg "number_at" "number_at" iX a.lW a.kL ["many","place"]
 eH:FX K mg "paired_spread" "paired_spread" eJ a.bQ a.g5 ["many","place"]
 dO:FX K mg "leaning_spread" "leaning_spread" cC a.cG a.gA ["many","place"]
 dP:FX K mg "guessed_spread" "guessed_spread" cD a.cH a.gC ["many","place"]
 aq:FX K mg "places_of_differences" "places_of_differences" bA a.cZ a.cQ ["many","numbers"]
 gE:FX K mg "paired_back" "paired_back" gJ a.cm a.jj ["many","place"]
 fm:FX K mg "leaning_back" "leaning_back" fE a.dC a.iI ["many","place"]
 bw:FX K mg "first_back" "first_back" h_ a.kT a.jW ["many","at"]
 fq:FX K mg "guessed_back" "guessed_back" fG a.dD a.iK ["many","place"]
 bI:FX K mg "known_spread" "known_spread" fF a.jo a.iJ ["word","many","place"]
 aR:FX K mg "known_back_spread" "known_back_spread" cJ a.eP a.eC ["word","many","place"]
 az:FX K mg "check_row_place" "check_row_place" dk a.dE a.cW ["word","many","place"]
 cO:FX K mg "spread" "spread" m6 a.eG a.lN ["word","many","place"]
 ba:FX K mg "back_spread" "back_spread" gK a.bH a.fN ["word","many","place"]
 gj:FX K mg "_law_cell" "_law_cell" i6 a.l9 a.kQ ["_law_script","_law_k"]
 dW:FX K mg "_law_stream" "_law_stream" gM a.j0 a.jk ["_law_cell_here"]
 aw:FX K mg "_law_take" "_law_take" i5 a.l0 a.kP ["_law_stream_here","_law_many"]
 bY:FX K mg "_law_masks_parted" "_law_masks_parted" aS a.eQ a.eD ["_law_word","_law_row"]
 bZ:FX K mg "_law_masks_joined" "_law_masks_joined" aT a.eR a.eE ["_law_word","_law_row"]
 b8:FX K mg "_law_mixed" "_law_mixed" ij a.kX a.jZ ["_law_firsts","_law_seconds"]
 eS:FX K mg "_law_whole" "_law_whole" ig a.kU a.jX ["_law_thing"]
 dX:FX K mg "_law_listed" "_law_listed" d_ a.j4 a.jm ["_law_mask","_law_many"]
 b7:FX K mg "_law_right" "_law_right" eV a.kW a.jY ["_law_door","_law_word","_law_many","_law_dues"]
 gi:FX K mg "_law_told" "_law_told" i4 a.lZ a.kO ["_law_door","_law_word","_law_many","_law_place"]
 dg:FX K mg "_law_refused" "_law_refused" fH a.jq a.iM ["_law_stream_here","_law_word","_law_many"]
 Eh:FX K mg "law" "law" uh a.yF a.tO ["_law_script"]
 mO:zk K a.ak
 wq:zj K a.ak a.ak a.bE []
 cu:zj K a.ak a.aP a.cN ["found"]
 cU:zj K a.ak a.aU a.cX ["found"]
 dN:zj K a.ak a.bp a.dF ["found"]
 xnd:xT [a.ak,a.aP,a.aU,a.bp]=true
 z_ValueError:mg "ValueError"=none
 DM:PySem.W.readsIn K a.ak (.type "type")=true
 DN:PySem.W.specialIn K (.ref a.ak) "__getattribute__"=some (some (.builtin "type.__getattribute__"))
 DO:PySem.W.findCls K (.ref a.ak) (.type "type") "__init__"=some (.val (.ref a.bE))
 iH:Meth K a.aE "word" a.fQ
 jh:Meth K a.aH "word" a.gR
 iG:Meth K a.aD "word" a.fP
 kI:Meth K a.a9 "word" a.jr
 ma:∃ t,mg "MOST_SIDE"=some (.int 64 t)
 uU:EqO K a.a9
 qv:qW K "bool" a.a9
 Ap:qW K "int" a.a9
 o7:EqO K a.aH
 lM:qW K "bool" a.aH
 vT:qW K "int" a.aH
 nP:EqO K a.aE
 kh:qW K "bool" a.aE
 tH:qW K "int" a.aE
 nO:EqO K a.aD
 kg:qW K "bool" a.aD
 tG:qW K "int" a.aD
 z_bool:mg "bool"=none
 z_enumerate:mg "enumerate"=none
 z_int:mg "int"=none
 z_isinstance:mg "isinstance"=none
 z_len:mg "len"=none
 z_list:mg "list"=none
 z_max:mg "max"=none
 z_min:mg "min"=none
 z_range:mg "range"=none
 z_set:mg "set"=none
 z_sorted:mg "sorted"=none
 ty:iy K
theorem snoc {f:Nat→D} {k:Nat} {d:D} (h:d=f k):(List.range k).map f++[d]=(List.range (k + 1)).map f:=by
 rw[List.range_succ,List.map_append,h];rfl
theorem Ak {f:Nat→D} {k n:Nat} {d:D} (h:((List.range n).map f)[k]?=some d):k < n∧d=f k:=by
 have lt:k < n:=by have:=(List.getElem?_eq_some_iff.mp h).1;simpa using this
 rw[List.getElem?_map,List.getElem?_range lt] at h
 cases h
 exact⟨lt,rfl⟩
theorem small {n:Nat} (h:n≤1000):n < sizeLine:=by rw[sizeLine_eq];omega
theorem xo {α β:Type} (f:α→β) (xs:List α) (lo hi st:Option Int):pk (xs.map f) lo hi st=(pk xs lo hi st).map f:=by
 unfold pk
 rw[List.length_map,List.map_filterMap]
 congr 1
 funext x
 rw[List.getElem?_map]
section
variable {P:Program} {w:World} {K:PySem.W.Frag} {mg:Str→Option Value} {base:Heap} {a:Ad}
def whD (d:D) (lo hi:Int):Bool:=match d with
 | .int i=>decide (lo≤i) && decide (i≤hi)
 | _=>false
inductive Od (a:Ad):D→Prop where
 | non:Od a .non
 | bl (b:Bool):Od a (.bl b)
 | int (i:Int):Od a (.int i)
 | str (x:Str):Od a (.str x)
 | lst (xs:List D):Od a (.lst xs)
 | tup (xs:List D):Od a (.tup xs)
 | obj (p:Addr) (c:Option Addr) (h:∀ C,c=some C→C∈[a.a9,a.aH,a.aE,a.aD]):Od a (.obj p c)
def zp (a:Ad):S3:=fun Γ Q=>∃ (d:D) (lo hi:Int),Γ=[some (.fz d),some (.fz (.int lo)),some (.fz (.int hi))]∧Od a d∧Q (.fz (.bl (whD d lo hi))) Γ
theorem gr (T:Txt w K mg a):aM P w K mg base CX0 1 a.nN a.lV ["thing","low","high"] (sp3 K 3 (zp a)):=by
 refine ok3 T.br.F rg (hbody:=fun cdv A outer s H E hr=>⟨_,_,(ai (cf (P3W.pt (ng (bR (aO (vd (vf T.ty) (by rfl) (al4 T.qv T.lM T.kh T.kg) T.ty.db) (by rfl) T.z_isinstance (by decide +kernel) (aa (bv 0) (aa (P3.opd (lR (n:="bool") (by rfl) T.z_bool (by decide +kernel))) ae)))) (qk (cE (bR (aO (vd (B5 T.ty) (by rfl) (al4 T.Ap T.vT T.tH T.tG) T.ty.di) (by rfl) T.z_isinstance (by decide +kernel) (aa (bv 0) (aa (P3.opd (lR (n:="int") (by rfl) T.z_int (by decide +kernel))) ae)))))))) (ar (aC gX)) bB)
   (ar (aC (xH y_ y_ (bv 1) (bv 0) (bv 2))))),fun Γa Q h hl=>?_⟩)
 obtain⟨d,lo,hi,rfl,hk,q⟩:=h
 cases hk with
 | int i=>
  walk_at "m2"
  by_cases h:lo≤i
  ·simp only[yE,h,decide_true]
   simpa only[whD,h,decide_true,Bool.true_and] using q
  ·simp only[yE,h,decide_false]
   simpa only[whD,h,decide_false,Bool.false_and] using q
 | obj p c h=>
  walk_at "m2"
  refine⟨h,?_⟩
  walk_at "m2"
  refine⟨h,?_⟩
  walk_at "m2"
  exact q
 | _=>walk_at "m2";exact q
inductive Rl where
 | sum | half | guess | lean
def Rl.cls (a:Ad):Rl→Addr
 | .sum=>a.a9 | .half=>a.aH | .guess=>a.aE | .lean=>a.aD
abbrev Rl.ob (a:Ad) (R:Rl):D:=.ins (R.cls a) [] []
def Rl.num:Rl→Nat
 | .sum=>0 | .half=>1 | .guess=>2 | .lean=>3
def Rl.word:Rl→Str
 | .sum=>"sum" | .half=>"half" | .guess=>"guess" | .lean=>"lean"
theorem bD (i:Int) (n:Nat):(rng i n).length=n:=by unfold rng;simp
theorem cS {n k:Nat} {d:D} (h:(rng 0 n)[k]?=some d):k < n∧d=.int (k:Int):=by
 unfold rng at h
 obtain⟨h1,h2⟩:=Ak h
 exact⟨h1,by rw[h2];simp⟩
def hU (x:Str):S3:=fun Γ Q=>∃ d,Γ=[some (.fz d)]∧Q (.fz (.str x)) Γ
theorem kH (T:Txt w K mg a):aM P w K mg base CX0 1 a.jr a.kR ["self"] (sp3 K 1 (hU "sum")):=by
 refine ok3 T.iS.F p7 (hbody:=fun cdv A outer s H E hr=>⟨_,_,(ar (aC bg)),fun Γa Q h hl=>?_⟩)
 obtain⟨d,rfl,q⟩:=h
 walk_at "m2"
 exact q
theorem jf (T:Txt w K mg a):aM P w K mg base CX0 1 a.gR a.jn ["self"] (sp3 K 1 (hU "half")):=by
 refine ok3 T.gF.F m5 (hbody:=fun cdv A outer s H E hr=>⟨_,_,(ar (aC bg)),fun Γa Q h hl=>?_⟩)
 obtain⟨d,rfl,q⟩:=h
 walk_at "m2"
 exact q
theorem iF (T:Txt w K mg a):aM P w K mg base CX0 1 a.fQ a.iO ["self"] (sp3 K 1 (hU "guess")):=by
 refine ok3 T.fv.F mn (hbody:=fun cdv A outer s H E hr=>⟨_,_,(ar (aC bg)),fun Γa Q h hl=>?_⟩)
 obtain⟨d,rfl,q⟩:=h
 walk_at "m2"
 exact q
theorem iE (T:Txt w K mg a):aM P w K mg base CX0 1 a.fP a.iN ["self"] (sp3 K 1 (hU "lean")):=by
 refine ok3 T.fu.F mm (hbody:=fun cdv A outer s H E hr=>⟨_,_,(ar (aC bg)),fun Γa Q h hl=>?_⟩)
 obtain⟨d,rfl,q⟩:=h
 walk_at "m2"
 exact q
def zB (a:Ad):S3:=fun Γ Q=>Γ=[]∧Q (.fr (.lst [Rl.sum.ob a,Rl.half.ob a,Rl.guess.ob a,Rl.lean.ob a])) Γ
theorem kG (T:Txt w K mg a):aM P w K mg base CX0 1 a.lY a.kN [] (sp3 K 0 (zB a)):=by
 refine ok3 T.cv.F p5 (hbody:=fun cdv A outer s H E hr=>⟨_,_,(ar (aC (a8 (ab (jF T.mk_Sums (by rfl) T.Am) (ab (jF T.mk_Halves (by rfl) T.vQ) (ab (jF T.mk_Guessed (by rfl) T.tD) (ab (jF T.mk_Leaning (by rfl) T.tw) aj))))))),fun Γa Q h hl=>?_⟩)
 obtain⟨rfl,q⟩:=h
 walk_at "m2"
 exact⟨by rw[sizeLine_eq];omega,q⟩
abbrev il (ns:List Int):D:=.lst (ns.map D.int)
theorem iu {ns:List Int} {k:Nat} {d:D} (h:(ns.map D.int)[k]?=some d):∃ n,ns[k]?=some n∧d=.int n:=by
 rw[List.getElem?_map] at h
 cases q:ns[k]? with
 | none=>rw[q] at h;cases h
 | some n=>rw[q] at h;cases h;exact⟨n,rfl,rfl⟩
theorem ke {α:Type} {xs:List α} {k:Nat} {x:α} (h:xs[k]?=some x):k < xs.length:=(List.getElem?_eq_some_iff.mp h).1
theorem take_snoc {α:Type} {xs:List α} {k:Nat} {x:α} (h:xs[k]?=some x):xs.take (k + 1)=xs.take k++[x]:=by rw[List.take_succ,h];rfl
def ms (m:Int):Int:=(m + 1) / 2
def GL:S3:=fun Γ Q=>∃ m:Int,Γ=[some (.fz (.int m))]∧Q (.fz (.int (ms m))) Γ
theorem cb (T:Txt w K mg a):aM P w K mg base CX0 1 a.lX a.kM ["many"] (sp3 K 1 GL):=by
 refine ok3 T.aF.F p4 (hbody:=fun cdv A outer s H E hr=>⟨_,_,(ar (aC (dq (P3.opd (aJ (bv 0) (P3.opd af))) (P3.opd af)))),fun Γa Q h hl=>?_⟩)
 obtain⟨m,rfl,q⟩:=h
 walk_at "m2"
 exact⟨by unfold mE;omega,q⟩
def inM (m n:Int):Bool:=decide (0≤n) && decide (n < m)
def am (ns:List Int) (m:Int):List Int:=ns.filter (inM m)
def G3:S3:=fun Γ Q=>∃ (ns:List Int) (m:Int),Γ=[some (.fz (il ns)),some (.fz (.int m))]∧ns.length≤200∧Q (.fr (il (am ns m))) Γ
theorem gY (T:Txt w K mg a):aM P w K mg base CX0 1 a.uT a.rX ["numbers","many"] (sp3 K 2 G3):=by
 refine ok3 T.bC.F wY (hbody:=fun cdv A outer s H E hr=>⟨_,_,(ar (aC (nk rfl (eh (by rfl) (p3v 0)) md (fun _ _ _ _ _=>(bq (i:=0) md.nd rfl (Or.inl rfl))) (fun _ _ _ _ _=>(vJ y_ sj (P3.opd af) (bv 0) (bv 1))) (fun _ _ _ _ _=>(p3v 0))))),fun Γa Q h hl=>?_⟩)
 obtain⟨ns,m,rfl,hn,q⟩:=h
 walk_at "m2"
 refine g6 (fun k ys Γc=>k≤ns.length∧ys=((ns.take k).filter (inM m)).map D.int∧∃ s,Γc=[fo s,some (.fz (.int m))]) ⟨Nat.zero_le _,rfl,none,rfl⟩ ?_ ?_
 ·rintro k d ys Γc hd ⟨hk,rfl,s,rfl⟩
  obtain⟨n,hn',rfl⟩:=iu hd
  have lt:=ke hn'
  walk_at "m2"
  by_cases h0:0≤n
  ·simp only[yE,h0,decide_true]
   by_cases h1:n < m
   ·have e:inM m n=true:=by simp [inM,h0,h1]
    simp only[qB,h1,decide_true]
    exact⟨small (by rw[List.length_map];exact Nat.le_trans (List.length_filter_le _ _) (by rw[List.length_take];omega)),lt,by rw[take_snoc hn',List.filter_append,List.filter_cons_of_pos e,List.map_append];simp,some _,rfl⟩
   ·have e:inM m n=false:=by simp [inM,h1]
    simp only[qB,h1,decide_false]
    exact⟨lt,by rw[take_snoc hn',List.filter_append,List.filter_cons_of_neg (by rw[e];decide)];simp,some _,rfl⟩
  ·have e:inM m n=false:=by simp [inM,h0]
   simp only[yE,h0,decide_false]
   exact⟨lt,by rw[take_snoc hn',List.filter_append,List.filter_cons_of_neg (by rw[e];decide)];simp,some _,rfl⟩
 ·rintro ys Γc ⟨hk,rfl,s,rfl⟩
  rw[show ns.take (List.map D.int ns).length=ns by rw[List.length_map,List.take_length]]
  refine⟨small (by rw[List.length_map];exact Nat.le_trans (List.length_filter_le _ _) (by omega)),?_⟩
  exact q
def pr (m k:Int):List Int:=am [2 * k,2 * k + 1] m
def gu (m k:Int):List Int:=am [2 * k,2 * k + 1,2 * k + 2] m
def na (m p:Int):Int:=if p < ms m then p else p - ms m
def qf (f:Int→Int→List Int):S3:=fun Γ Q=>∃ (m k:Int),Γ=[some (.fz (.int m)),some (.fz (.int k))]∧Q (.fr (il (f m k))) Γ
theorem cm2 {k:Int}:sF 2 k:=by unfold sF;omega
theorem sl2 {n:Nat} (h:n≤1000):n≤sizeLine:=Nat.le_of_lt (small h)
theorem kc (T:Txt w K mg a):aM P w K mg base CX0 2 a.o6 a.nM ["many","at"] (sp3 K 2 (qf pr)):=by
 refine ok3 T.ck.F sS (hbody:=fun cdv A outer s H E hr=>⟨_,_,(ar (aC (ao (by rfl) (gY T) hr.dn (by rfl) T.bC.m T.bC.F.kp T.bC.b (aa (P3.opd (a8 (ab (cM (P3.opd af) (bv 1)) (ab (aJ (P3.opd (cM (P3.opd af) (bv 1))) (P3.opd af)) aj)))) (aa (P3.opd (p3v 0)) ae))))),fun Γa Q h hl=>?_⟩)
 obtain⟨m,k,rfl,q⟩:=h
 walk_at "m2"
 refine⟨cm2,cm2,sl2 (by decide),?_⟩
 exact⟨[2 * k,2 * k + 1],m,rfl,by simp,q⟩
theorem jS (T:Txt w K mg a):aM P w K mg base CX0 2 a.kS a.jV ["many","at"] (sp3 K 2 (qf gu)):=by
 refine ok3 T.b6.F og (hbody:=fun cdv A outer s H E hr=>⟨_,_,(ar (aC (ao (by rfl) (gY T) hr.dn (by rfl) T.bC.m T.bC.F.kp T.bC.b (aa (P3.opd (a8 (ab (cM (P3.opd af) (bv 1)) (ab (aJ (P3.opd (cM (P3.opd af) (bv 1))) (P3.opd af)) (ab (aJ (P3.opd (cM (P3.opd af) (bv 1))) (P3.opd af)) aj))))) (aa (P3.opd (p3v 0)) ae))))),fun Γa Q h hl=>?_⟩)
 obtain⟨m,k,rfl,q⟩:=h
 walk_at "m2"
 refine⟨cm2,cm2,cm2,sl2 (by decide),?_⟩
 exact⟨[2 * k,2 * k + 1,2 * k + 2],m,rfl,by simp,q⟩
def GJ:S3:=fun Γ Q=>∃ (m p:Int),Γ=[some (.fz (.int m)),some (.fz (.int p))]∧Q (.fz (.int (na m p))) Γ
theorem iq (T:Txt w K mg a):aM P w K mg base CX0 2 a.lW a.kL ["many","place"] (sp3 K 2 GJ):=by
 refine ok3 T.bF.F p3 (hbody:=fun cdv A outer s H E hr=>⟨_,_,(ar (aC (xG (bx sj (bv 1) (P3.opd (ao (by rfl) (cb T) hr.dn (by rfl) T.aF.m T.aF.F.kp T.aF.b (aa (P3.opd (p3v 0)) ae))) (bV _)) (p3v 1) (gO (bv 1) (P3.opd (ao (by rfl) (cb T) hr.dn (by rfl) T.aF.m T.aF.F.kp T.aF.b (aa (P3.opd (p3v 0)) ae))))))),fun Γa Q h hl=>?_⟩)
 obtain⟨m,p,rfl,q⟩:=h
 walk_at "m2"
 unfold if3
 walk_at "m2"
 refine⟨m,rfl,?_⟩
 walk_at "m2"
 by_cases h:p < ms m
 ·simp only[qB,h,decide_true]
  walk_at "m2"
  simpa only[na,h,if_true] using q
 ·simp only[qB,h,decide_false]
  walk_at "m2"
  refine⟨m,rfl,?_⟩
  walk_at "m2"
  simpa only[na,h,if_false] using q
def pS (m p:Int):List Int:=pr m (na m p)
theorem lH (T:Txt w K mg a):aM P w K mg base CX0 3 a.bQ a.g5 ["many","place"] (sp3 K 2 (qf pS)):=by
 refine ok3 T.eH.F lx (hbody:=fun cdv A outer s H E hr=>⟨_,_,(ar (aC (ao (by rfl) (kc T) hr.dn (by rfl) T.ck.m T.ck.F.kp T.ck.b (aa (P3.opd (p3v 0)) (aa (P3.opd (ao (by rfl) (iq T) hr.dn (by rfl) T.bF.m T.bF.F.kp T.bF.b (aa (P3.opd (p3v 0)) (aa (P3.opd (p3v 1)) ae)))) ae))))),fun Γa Q h hl=>?_⟩)
 obtain⟨m,p,rfl,q⟩:=h
 walk_at "m2"
 refine⟨m,p,rfl,?_⟩
 walk_at "m2"
 exact⟨m,na m p,rfl,q⟩
def lS (m p:Int):List Int:=if p < ms m then pr m (na m p) else (am [na m p - 1,na m p,na m p + 1] (ms m)).flatMap (pr m)
theorem ku {ns:List Int} {m:Int}:(am ns m).length≤ns.length:=List.length_filter_le _ _
theorem nK {f:Int→List Int} {c:Nat} (h:∀ x,(f x).length≤c):∀ xs:List Int,(xs.flatMap f).length≤xs.length * c
 | []=>by simp
 | x::r=>by
  rw[List.flatMap_cons,List.length_append,List.length_cons,Nat.add_mul,Nat.one_mul]
  have:=h x;have:=nK h r;omega
theorem uS {f:Int→List Int} {xs:List Int} {k:Nat} {n:Int} (h:xs[k]?=some n):(xs.take (k + 1)).flatMap f=(xs.take k).flatMap f++f n:=by rw[take_snoc h,List.flatMap_append];simp
theorem sY {m k:Int}:(pr m k).length≤2:=ku
theorem tL {m k:Int}:(gu m k).length≤3:=ku
theorem kE (T:Txt w K mg a):aM P w K mg base CX0 3 a.cG a.gA ["many","place"] (sp3 K 2 (qf lS)):=by
 refine ok3 T.dO.F dh (hbody:=fun cdv A outer s H E hr=>⟨_,_,(ai (aB (i:=2) dh.nd rfl (Or.inl rfl) (ao (by rfl) (iq T) hr.dn (by rfl) T.bF.m T.bF.F.kp T.bF.b (aa (P3.opd (p3v 0)) (aa (P3.opd (p3v 1)) ae))))
   (ai (cf (bx sj (bv 1) (P3.opd (ao (by rfl) (cb T) hr.dn (by rfl) T.aF.m T.aF.F.kp T.aF.b (aa (P3.opd (p3v 0)) ae))) (bV _)) (ar (aC (ao (by rfl) (kc T) hr.dn (by rfl) T.ck.m T.ck.F.kp T.ck.b (aa (P3.opd (p3v 0)) (aa (P3.opd (p3v 2)) ae))))) bB)
   (ai (aB (i:=3) dh.nd rfl (Or.inl rfl) (ao (by rfl) (gY T) hr.dn (by rfl) T.bC.m T.bC.F.kp T.bC.b (aa (P3.opd (a8 (ab (gO (bv 2) (P3.opd af)) (ab (p3v 2) (ab (aJ (bv 2) (P3.opd af)) aj))))) (aa (P3.opd (ao (by rfl) (cb T) hr.dn (by rfl) T.aF.m T.aF.F.kp T.aF.b (aa (P3.opd (p3v 0)) ae))) ae))))
   (ar (aC (rG rfl (eh (by rfl) (p3v 3)) cz (fun _ _ _ _ _=>(bq (i:=0) cz.nd rfl (Or.inl rfl))) (fun _ _ _ _ _=>(eh (by rfl) (ao (by rfl) (kc T) hr.dn (by rfl) T.ck.m T.ck.F.kp T.ck.b (aa (P3.opd (p3v 2)) (aa (P3.opd (p3v 0)) ae))))) (fun _ _ _ _ _=>(bq (i:=1) cz.nd rfl (Or.inl rfl))) (fun _ _ _ _ _=>(p3v 1)))))))),fun Γa Q h hl=>?_⟩)
 obtain⟨m,p,rfl,q⟩:=h
 walk_at "m2"
 refine⟨m,p,rfl,?_⟩
 walk_at "m2"
 refine⟨m,rfl,?_⟩
 walk_at "m2"
 refine g_ (fun e=>?_) (fun e=>?_)
 ·have h:p < ms m:=by simpa [qB] using e
  walk_at "m2"
  refine⟨m,na m p,rfl,?_⟩
  walk_at "m2"
  simpa only[lS,h,if_true] using q
 ·have h:¬ p < ms m:=by simpa [qB] using e
  walk_at "m2"
  refine⟨sl2 (by decide),⟨m,rfl,?_⟩⟩
  walk_at "m2"
  refine⟨[na m p - 1,na m p,na m p + 1],ms m,rfl,by simp,?_⟩
  walk_at "m2"
  have hx3:(am [na m p - 1,na m p,na m p + 1] (ms m)).length≤3:=ku
  have q':Q (RV.fr (il ((am [na m p - 1,na m p,na m p + 1] (ms m)).flatMap (pr m)))) [some (Sl.fz (D.int m)),some (Sl.fz (D.int p))]:=by simpa only[lS,h,if_false] using q
  generalize am [na m p - 1,na m p,na m p + 1] (ms m)=xs at hx3 q'
  refine g6 (fun k ys Γc=>k≤xs.length∧ys=((xs.take k).flatMap (pr m)).map D.int∧∃ s s',Γc=[fo s,fo s',some (.fz (.int m))]) ⟨Nat.zero_le _,rfl,none,none,rfl⟩ ?_ ?_
  ·rintro k d ys Γc hd ⟨hk,rfl,s,s',rfl⟩
   obtain⟨n,hn,rfl⟩:=iu hd
   have lt:=ke hn
   have l1:=nK (f:=pr m) (c:=2) (fun _=>sY) (xs.take k)
   have l2:=sY (m:=m) (k:=n)
   rw[List.length_take] at l1
   walk_at "m2"
   refine⟨m,n,rfl,?_⟩
   walk_at "m2"
   refine⟨fun j ys Γc=>ys=((xs.take k).flatMap (pr m)++(pr m n).take j).map D.int∧j≤(pr m n).length∧∃ s',Γc=[some (.fz (.int n)),fo s',some (.fz (.int m))],⟨by simp,by omega,s',rfl⟩,?_,?_⟩
   ·rintro j d ys Γc hd ⟨rfl,hj,s',rfl⟩
    obtain⟨n',hn',rfl⟩:=iu hd
    have lt':=ke hn'
    walk_at "m2"
    refine⟨small (by rw[List.length_map,List.length_append,List.length_take];omega),?_,by omega,some _,rfl⟩
    rw[take_snoc hn',← List.append_assoc,List.map_append (l₁:=_++_)];rfl
   ·rintro ys Γc ⟨rfl,hj,s',rfl⟩
    refine⟨lt,?_,some _,s',rfl⟩
    rw[List.length_map,List.take_length,uS hn]
  ·rintro ys Γc ⟨hk,rfl,s,s',rfl⟩
   have l1:=nK (f:=pr m) (c:=2) (fun _=>sY) xs
   rw[show xs.take (List.map D.int xs).length=xs by rw[List.length_map,List.take_length]]
   refine⟨small (by rw[List.length_map];omega),?_⟩
   exact q'
def gS (m p:Int):List Int:=if ms m≤p then gu m (na m p) else sset ([2 * na m p]++(am [na m p - 1,na m p] (m / 2)).flatMap (gu m))
theorem kF (T:Txt w K mg a):aM P w K mg base CX0 3 a.cH a.gC ["many","place"] (sp3 K 2 (qf gS)):=by
 refine ok3 T.dP.F dj (hbody:=fun cdv A outer s H E hr=>⟨_,_,(ai (aB (i:=2) dj.nd rfl (Or.inl rfl) (ao (by rfl) (iq T) hr.dn (by rfl) T.bF.m T.bF.F.kp T.bF.b (aa (P3.opd (p3v 0)) (aa (P3.opd (p3v 1)) ae))))
   (ai (cf (bx FQ (bv 1) (P3.opd (ao (by rfl) (cb T) hr.dn (by rfl) T.aF.m T.aF.F.kp T.aF.b (aa (P3.opd (p3v 0)) ae))) (bV _)) (ar (aC (ao (by rfl) (jS T) hr.dn (by rfl) T.b6.m T.b6.F.kp T.b6.b (aa (P3.opd (p3v 0)) (aa (P3.opd (p3v 2)) ae))))) bB)
   (ai (aB (i:=3) dj.nd rfl (Or.inl rfl) (ao (by rfl) (gY T) hr.dn (by rfl) T.bC.m T.bC.F.kp T.bC.b (aa (P3.opd (a8 (ab (gO (bv 2) (P3.opd af)) (ab (p3v 2) aj)))) (aa (P3.opd (dq (bv 0) (P3.opd af))) ae))))
   (ar (aC (ux rfl (by rfl) T.z_sorted (by rfl) T.z_set (aa (P3.opd (aJ (P3.opd (a8 (ab (cM (P3.opd af) (bv 2)) aj))) (P3.opd (rG rfl (eh (by rfl) (p3v 3)) cA (fun _ _ _ _ _=>(bq (i:=0) cA.nd rfl (Or.inl rfl))) (fun _ _ _ _ _=>(eh (by rfl) (ao (by rfl) (jS T) hr.dn (by rfl) T.b6.m T.b6.F.kp T.b6.b (aa (P3.opd (p3v 2)) (aa (P3.opd (p3v 0)) ae))))) (fun _ _ _ _ _=>(bq (i:=1) cA.nd rfl (Or.inl rfl))) (fun _ _ _ _ _=>(p3v 1)))))) ae))))))),fun Γa Q h hl=>?_⟩)
 obtain⟨m,p,rfl,q⟩:=h
 walk_at "m2"
 refine⟨m,p,rfl,?_⟩
 walk_at "m2"
 refine⟨m,rfl,?_⟩
 walk_at "m2"
 refine g_ (fun e=>?_) (fun e=>?_)
 ·have h:ms m≤p:=by simpa [DS] using e
  walk_at "m2"
  refine⟨m,na m p,rfl,?_⟩
  walk_at "m2"
  simpa only[gS,h,if_true] using q
 ·have h:¬ ms m≤p:=by simpa [DS] using e
  walk_at "m2"
  refine⟨sl2 (by decide),by unfold mE;omega,⟨[na m p - 1,na m p],m / 2,rfl,by simp,?_⟩⟩
  walk_at "m2"
  have hx3:(am [na m p - 1,na m p] (m / 2)).length≤2:=ku
  have q':Q (RV.fr (il (sset ([2 * na m p]++(am [na m p - 1,na m p] (m / 2)).flatMap (gu m))))) [some (Sl.fz (D.int m)),some (Sl.fz (D.int p))]:=by simpa only[gS,h,if_false] using q
  generalize am [na m p - 1,na m p] (m / 2)=xs at hx3 q'
  refine⟨cm2,sl2 (by decide),g6 (fun k ys Γc=>k≤xs.length∧ys=((xs.take k).flatMap (gu m)).map D.int∧∃ s s',Γc=[fo s,fo s',some (.fz (.int m))]) ⟨Nat.zero_le _,rfl,none,none,rfl⟩ ?_ ?_⟩
  ·rintro k d ys Γc hd ⟨hk,rfl,s,s',rfl⟩
   obtain⟨n,hn,rfl⟩:=iu hd
   have lt:=ke hn
   have l1:=nK (f:=gu m) (c:=3) (fun _=>tL) (xs.take k)
   have l2:=tL (m:=m) (k:=n)
   rw[List.length_take] at l1
   walk_at "m2"
   refine⟨m,n,rfl,?_⟩
   walk_at "m2"
   refine⟨fun j ys Γc=>ys=((xs.take k).flatMap (gu m)++(gu m n).take j).map D.int∧j≤(gu m n).length∧∃ s',Γc=[some (.fz (.int n)),fo s',some (.fz (.int m))],⟨by simp,by omega,s',rfl⟩,?_,?_⟩
   ·rintro j d ys Γc hd ⟨rfl,hj,s',rfl⟩
    obtain⟨n',hn',rfl⟩:=iu hd
    have lt':=ke hn'
    walk_at "m2"
    refine⟨small (by rw[List.length_map,List.length_append,List.length_take];omega),?_,by omega,some _,rfl⟩
    rw[take_snoc hn',← List.append_assoc,List.map_append (l₁:=_++_)];rfl
   ·rintro ys Γc ⟨rfl,hj,s',rfl⟩
    refine⟨lt,?_,some _,s',rfl⟩
    rw[List.length_map,List.take_length,uS hn]
  ·rintro ys Γc ⟨hk,rfl,s,s',rfl⟩
   have l1:=nK (f:=gu m) (c:=3) (fun _=>tL) xs
   rw[show xs.take (List.map D.int xs).length=xs by rw[List.length_map,List.take_length]]
   refine⟨small (by rw[List.length_map];omega),?_⟩
   walk_at "m2"
   exact⟨sl2 (by rw[List.length_map];omega),2 * na m p::xs.flatMap (gu m),rfl,by rw[List.length_cons];omega,q'⟩
def pd (m:Int) (ns:List Int):List Int:=(am ns (m / 2)).map fun n=>ms m + n
def GF:S3:=fun Γ Q=>∃ (m:Int) (ns:List Int),Γ=[some (.fz (.int m)),some (.fz (il ns))]∧ns.length≤100∧Q (.fr (il (pd m ns))) Γ
theorem bz (T:Txt w K mg a):aM P w K mg base CX0 2 a.cZ a.cQ ["many","numbers"] (sp3 K 2 GF):=by
 refine ok3 T.aq.F gI (hbody:=fun cdv A outer s H E hr=>⟨_,_,(ar (aC (gq rfl (eh (by rfl) (ao (by rfl) (gY T) hr.dn (by rfl) T.bC.m T.bC.F.kp T.bC.b (aa (P3.opd (p3v 1)) (aa (P3.opd (dq (bv 0) (P3.opd af))) ae)))) cp (fun _ _ _ _ _=>(bq (i:=0) cp.nd rfl (Or.inl rfl))) (fun _ _ _ _ _=>(aJ (P3.opd (ao (by rfl) (cb T) hr.dn (by rfl) T.aF.m T.aF.F.kp T.aF.b (aa (P3.opd (p3v 1)) ae))) (bv 0)))))),fun Γa Q h hl=>?_⟩)
 obtain⟨m,ns,rfl,hn,q⟩:=h
 walk_at "m2"
 refine⟨by unfold mE;omega,⟨ns,m / 2,rfl,by omega,?_⟩⟩
 walk_at "m2"
 have hx:=ku (ns:=ns) (m:=m / 2)
 unfold pd at q
 generalize am ns (m / 2)=xs at hx q
 refine⟨small (by rw[List.length_map];omega),cR (fun k ys Γc=>k≤xs.length∧ys=((xs.take k).map fun n=>ms m + n).map D.int∧∃ s,Γc=[fo s,some (.fz (.int m))]) ⟨Nat.zero_le _,rfl,none,rfl⟩ ?_ ?_⟩
 ·rintro k d ys Γc hd hy ⟨hk,rfl,s,rfl⟩
  obtain⟨n,hn,rfl⟩:=iu hd
  have lt:=ke hn
  walk_at "m2"
  refine⟨m,rfl,?_⟩
  walk_at "m2"
  exact⟨lt,by rw[take_snoc hn,List.map_append,List.map_append];rfl,some _,rfl⟩
 ·rintro ys Γc hy ⟨hk,rfl,s,rfl⟩
  rw[show xs.take (List.map D.int xs).length=xs by rw[List.length_map,List.take_length]]
  exact q
theorem nc {m:Int} {ns:List Int}:(pd m ns).length≤ns.length:=by unfold pd;rw[List.length_map];exact ku
def pB (m p:Int):List Int:=[p / 2]++pd m [p / 2]
theorem nv (T:Txt w K mg a):aM P w K mg base CX0 3 a.cm a.jj ["many","place"] (sp3 K 2 (qf pB)):=by
 refine ok3 T.gE.F iU (hbody:=fun cdv A outer s H E hr=>⟨_,_,(ai (aB (i:=2) iU.nd rfl (Or.inl rfl) (dq (bv 1) (P3.opd af)))
   (ar (aC (aJ (P3.opd (a8 (ab (p3v 2) aj))) (P3.opd (ao (by rfl) (bz T) hr.dn (by rfl) T.aq.m T.aq.F.kp T.aq.b (aa (P3.opd (p3v 0)) (aa (P3.opd (a8 (ab (p3v 2) aj))) ae)))))))),fun Γa Q h hl=>?_⟩)
 obtain⟨m,p,rfl,q⟩:=h
 walk_at "m2"
 refine⟨by unfold mE;omega,sl2 (by decide),sl2 (by decide),⟨m,[p / 2],rfl,by simp,?_⟩⟩
 walk_at "m2"
 have l:=nc (m:=m) (ns:=[p / 2])
 exact⟨sl2 (by rw[List.length_map];simp at l;omega),q⟩
def fB (m k:Int):List Int:=[k]++pd m [k - 1,k]
theorem gQ (T:Txt w K mg a):aM P w K mg base CX0 3 a.kT a.jW ["many","at"] (sp3 K 2 (qf fB)):=by
 refine ok3 T.bw.F oh (hbody:=fun cdv A outer s H E hr=>⟨_,_,(ar (aC (aJ (P3.opd (a8 (ab (p3v 1) aj))) (P3.opd (ao (by rfl) (bz T) hr.dn (by rfl) T.aq.m T.aq.F.kp T.aq.b (aa (P3.opd (p3v 0)) (aa (P3.opd (a8 (ab (gO (bv 1) (P3.opd af)) (ab (p3v 1) aj)))) ae))))))),fun Γa Q h hl=>?_⟩)
 obtain⟨m,p,rfl,q⟩:=h
 walk_at "m2"
 refine⟨sl2 (by decide),sl2 (by decide),⟨m,[p - 1,p],rfl,by simp,?_⟩⟩
 walk_at "m2"
 have l:=nc (m:=m) (ns:=[p - 1,p])
 exact⟨sl2 (by rw[List.length_map];simp at l;omega),q⟩
theorem yG {m k:Int}:(fB m k).length≤3:=by
 unfold fB
 have l:=nc (m:=m) (ns:=[k - 1,k])
 simp at l ⊢
 omega
def lB (m p:Int):List Int:=if p / 2=m / 2 then [p / 2] else am [p / 2 - 1,p / 2,p / 2 + 1] (ms m)++pd m [p / 2]
theorem mw (T:Txt w K mg a):aM P w K mg base CX0 3 a.dC a.iI ["many","place"] (sp3 K 2 (qf lB)):=by
 refine ok3 T.fm.F iA (hbody:=fun cdv A outer s H E hr=>⟨_,_,(ai (aB (i:=2) iA.nd rfl (Or.inl rfl) (dq (bv 1) (P3.opd af)))
   (ai (cf (bx (kq (by rfl) hr) (bv 2) (P3.opd (dq (bv 0) (P3.opd af))) (bV _)) (ar (aC (a8 (ab (p3v 2) aj)))) bB)
   (ar (aC (aJ (P3.opd (ao (by rfl) (gY T) hr.dn (by rfl) T.bC.m T.bC.F.kp T.bC.b (aa (P3.opd (a8 (ab (gO (bv 2) (P3.opd af)) (ab (p3v 2) (ab (aJ (bv 2) (P3.opd af)) aj))))) (aa (P3.opd (ao (by rfl) (cb T) hr.dn (by rfl) T.aF.m T.aF.F.kp T.aF.b (aa (P3.opd (p3v 0)) ae))) ae)))) (P3.opd (ao (by rfl) (bz T) hr.dn (by rfl) T.aq.m T.aq.F.kp T.aq.b (aa (P3.opd (p3v 0)) (aa (P3.opd (a8 (ab (p3v 2) aj))) ae))))))))),fun Γa Q h hl=>?_⟩)
 obtain⟨m,p,rfl,q⟩:=h
 walk_at "m2"
 refine⟨by unfold mE;omega,by unfold mE;omega,g_ (fun e=>?_) (fun e=>?_)⟩
 ·have h:p / 2=m / 2:=by simpa using e
  walk_at "m2"
  refine⟨sl2 (by decide),?_⟩
  unfold lB at q
  rw[if_pos h] at q
  exact q
 ·have h:¬ p / 2=m / 2:=by simpa using e
  walk_at "m2"
  refine⟨sl2 (by decide),⟨m,rfl,?_⟩⟩
  walk_at "m2"
  refine⟨[p / 2 - 1,p / 2,p / 2 + 1],ms m,rfl,by simp,?_⟩
  walk_at "m2"
  refine⟨sl2 (by decide),⟨m,[p / 2],rfl,by simp,?_⟩⟩
  walk_at "m2"
  have l:=nc (m:=m) (ns:=[p / 2])
  have l2:=ku (ns:=[p / 2 - 1,p / 2,p / 2 + 1]) (m:=ms m)
  unfold lB at q
  rw[if_neg h,il,List.map_append] at q
  refine⟨sl2 (by rw[List.length_map,List.length_map];simp at l l2;omega),q⟩
def gB (m p:Int):List Int:=if p=2 * (p / 2) then fB m (p / 2) else sset ((pd m [p / 2]++fB m (p / 2))++(if p + 1 < m then fB m (p / 2 + 1) else []))
theorem mx (T:Txt w K mg a):aM P w K mg base CX0 4 a.dD a.iK ["many","place"] (sp3 K 2 (qf gB)):=by
 refine ok3 T.fq.F eI (hbody:=fun cdv A outer s H E hr=>⟨_,_,(ai (aB (i:=2) eI.nd rfl (Or.inl rfl) (dq (bv 1) (P3.opd af)))
   (ai (cf (bx (kq (by rfl) hr) (bv 1) (P3.opd (cM (P3.opd af) (bv 2))) (bV _)) (ar (aC (ao (by rfl) (gQ T) hr.dn (by rfl) T.bw.m T.bw.F.kp T.bw.b (aa (P3.opd (p3v 0)) (aa (P3.opd (p3v 2)) ae))))) bB)
   (ai (aB (i:=3) eI.nd rfl (Or.inl rfl) (aJ (P3.opd (ao (by rfl) (bz T) hr.dn (by rfl) T.aq.m T.aq.F.kp T.aq.b (aa (P3.opd (p3v 0)) (aa (P3.opd (a8 (ab (p3v 2) aj))) ae)))) (P3.opd (ao (by rfl) (gQ T) hr.dn (by rfl) T.bw.m T.bw.F.kp T.bw.b (aa (P3.opd (p3v 0)) (aa (P3.opd (p3v 2)) ae))))))
   (ai (cf (bx sj (P3.opd (aJ (bv 1) (P3.opd af))) (bv 0) (bV _)) (ar (jB (oQ 3 (by rfl) (bv 3) (P3.opd (ao (by rfl) (gQ T) hr.dn (by rfl) T.bw.m T.bw.F.kp T.bw.b (aa (P3.opd (p3v 0)) (aa (P3.opd (aJ (bv 2) (P3.opd af))) ae))))))) bB)
   (ar (aC (ux rfl (by rfl) T.z_sorted (by rfl) T.z_set (aa (bv 3) ae)))))))),fun Γa Q h hl=>?_⟩)
 obtain⟨m,p,rfl,q⟩:=h
 walk_at "m2"
 refine⟨by unfold mE;omega,cm2,g_ (fun e=>?_) (fun e=>?_)⟩
 ·have h:p=2 * (p / 2):=by simpa using e
  walk_at "m2"
  refine⟨m,p / 2,rfl,?_⟩
  unfold gB at q
  rw[if_pos h] at q
  exact q
 ·have h:¬ p=2 * (p / 2):=by simpa using e
  unfold gB at q
  rw[if_neg h] at q
  walk_at "m2"
  refine⟨sl2 (by decide),⟨m,[p / 2],rfl,by simp,?_⟩⟩
  walk_at "m2"
  refine⟨m,p / 2,rfl,?_⟩
  walk_at "m2"
  have l:=nc (m:=m) (ns:=[p / 2])
  have l2:=yG (m:=m) (k:=p / 2)
  have l':(pd m [p / 2]).length≤1:=by simpa using l
  refine⟨sl2 (by rw[List.length_map,List.length_map];omega),g_ (fun e1=>?_) (fun e1=>?_)⟩
  ·have h1:p + 1 < m:=by simpa [qB] using e1
   rw[if_pos h1] at q
   have l3:=yG (m:=m) (k:=p / 2 + 1)
   walk_at "m2"
   refine⟨m,p / 2 + 1,rfl,?_⟩
   walk_at "m2"
   exact⟨sl2 (by rw[List.length_append,List.length_map,List.length_map,List.length_map];omega),pd m [p / 2]++fB m (p / 2)++fB m (p / 2 + 1),by rw[List.map_append,List.map_append],by rw[List.length_append,List.length_append];omega,q⟩
  ·have h1:¬ p + 1 < m:=by simpa [qB] using e1
   rw[if_neg h1,List.append_nil] at q
   walk_at "m2"
   exact⟨pd m [p / 2]++fB m (p / 2),by rw[List.map_append],by rw[List.length_append];omega,q⟩
theorem gy {f1 f2 f3:Addr} (R:Rl):([("sum",f1),("half",f1),("guess",f2),("lean",f3)]:List (Str×Addr)).lookup R.word=some (match R with | .sum=>f1 | .half=>f1 | .guess=>f2 | .lean=>f3):=by
 simp only[List.lookup_cons]
 cases R with
 | sum=>rw[show (Rl.sum.word == Str.ofString "sum")=true by decide +kernel]
 | half=>rw[show (Rl.half.word == Str.ofString "sum")=false by decide +kernel,show (Rl.half.word == Str.ofString "half")=true by decide +kernel]
 | guess=>rw[show (Rl.guess.word == Str.ofString "sum")=false by decide +kernel,show (Rl.guess.word == Str.ofString "half")=false by decide +kernel,show (Rl.guess.word == Str.ofString "guess")=true by decide +kernel]
 | lean=>rw[show (Rl.lean.word == Str.ofString "sum")=false by decide +kernel,show (Rl.lean.word == Str.ofString "half")=false by decide +kernel,show (Rl.lean.word == Str.ofString "guess")=false by decide +kernel,show (Rl.lean.word == Str.ofString "lean")=true by decide +kernel]
def Rl.sp:Rl→Int→Int→List Int
 | .sum=>pS | .half=>pS | .guess=>gS | .lean=>lS
def Rl.bk:Rl→Int→Int→List Int
 | .sum=>pB | .half=>pB | .guess=>gB | .lean=>lB
def Fh (f:Rl→Int→Int→List Int):S3:=fun Γ Q=>∃ (R:Rl) (m p:Int),Γ=[some (.fz (.str R.word)),some (.fz (.int m)),some (.fz (.int p))]∧Q (.fr (il (f R m p))) Γ
theorem iD (T:Txt w K mg a):aM P w K mg base CX0 4 a.jo a.iJ ["word","many","place"] (sp3 K 3 (Fh Rl.sp)):=by
 refine ok3 T.bI.F iB (hbody:=fun cdv A outer s H E hr=>⟨_,_,(ai (aB (i:=3) iB.nd rfl (Or.inl rfl) (uy (by rfl) T.v9 (bv 0)))
   (ar (aC (P3.or (cP (j:=3) T.eH.F (lH T) hr.dn T.eH.b (by rfl) (by first | exact Or.inl rfl | exact Or.inr (Or.inl rfl) | exact Or.inr (Or.inr rfl)) (aa (P3.opd (p3v 1)) (aa (P3.opd (p3v 2)) ae))) (P3.or (cP (j:=3) T.dP.F (kF T) hr.dn T.dP.b (by rfl) (by first | exact Or.inl rfl | exact Or.inr (Or.inl rfl) | exact Or.inr (Or.inr rfl)) (aa (P3.opd (p3v 1)) (aa (P3.opd (p3v 2)) ae))) (cP (j:=3) T.dO.F (kE T) hr.dn T.dO.b (by rfl) (by first | exact Or.inl rfl | exact Or.inr (Or.inl rfl) | exact Or.inr (Or.inr rfl)) (aa (P3.opd (p3v 1)) (aa (P3.opd (p3v 2)) ae)))))))),fun Γa Q h hl=>?_⟩)
 obtain⟨R,m,p,rfl,q⟩:=h
 walk_at "m2"
 cases R with
 | sum=>
  refine⟨_,a.bQ,rfl,gy .sum,?_⟩
  walk_at "m2"
  refine .inl ⟨rfl,?_⟩
  walk_at "m2"
  exact⟨m,p,rfl,q⟩
 | half=>
  refine⟨_,a.bQ,rfl,gy .half,?_⟩
  walk_at "m2"
  refine .inl ⟨rfl,?_⟩
  walk_at "m2"
  exact⟨m,p,rfl,q⟩
 | guess=>
  refine⟨_,a.cH,rfl,gy .guess,?_⟩
  walk_at "m2"
  refine .inr (.inl ⟨rfl,?_⟩)
  walk_at "m2"
  exact⟨m,p,rfl,q⟩
 | lean=>
  refine⟨_,a.cG,rfl,gy .lean,?_⟩
  walk_at "m2"
  refine .inr (.inr ⟨rfl,?_⟩)
  walk_at "m2"
  exact⟨m,p,rfl,q⟩
theorem eu (T:Txt w K mg a):aM P w K mg base CX0 5 a.eP a.eC ["word","many","place"] (sp3 K 3 (Fh Rl.bk)):=by
 refine ok3 T.aR.F ej (hbody:=fun cdv A outer s H E hr=>⟨_,_,(ai (aB (i:=3) ej.nd rfl (Or.inl rfl) (uy (by rfl) T.nU (bv 0)))
   (ar (aC (P3.or (cP (j:=3) T.gE.F (nv T) hr.dn T.gE.b (by rfl) (by first | exact Or.inl rfl | exact Or.inr (Or.inl rfl) | exact Or.inr (Or.inr rfl)) (aa (P3.opd (p3v 1)) (aa (P3.opd (p3v 2)) ae))) (P3.or (cP (j:=3) T.fq.F (mx T) hr.dn T.fq.b (by rfl) (by first | exact Or.inl rfl | exact Or.inr (Or.inl rfl) | exact Or.inr (Or.inr rfl)) (aa (P3.opd (p3v 1)) (aa (P3.opd (p3v 2)) ae))) (cP (j:=3) T.fm.F (mw T) hr.dn T.fm.b (by rfl) (by first | exact Or.inl rfl | exact Or.inr (Or.inl rfl) | exact Or.inr (Or.inr rfl)) (aa (P3.opd (p3v 1)) (aa (P3.opd (p3v 2)) ae)))))))),fun Γa Q h hl=>?_⟩)
 obtain⟨R,m,p,rfl,q⟩:=h
 walk_at "m2"
 cases R with
 | sum=>
  refine⟨_,a.cm,rfl,gy .sum,?_⟩
  walk_at "m2"
  refine .inl ⟨rfl,?_⟩
  walk_at "m2"
  exact⟨m,p,rfl,q⟩
 | half=>
  refine⟨_,a.cm,rfl,gy .half,?_⟩
  walk_at "m2"
  refine .inl ⟨rfl,?_⟩
  walk_at "m2"
  exact⟨m,p,rfl,q⟩
 | guess=>
  refine⟨_,a.dD,rfl,gy .guess,?_⟩
  walk_at "m2"
  refine .inr (.inl ⟨rfl,?_⟩)
  walk_at "m2"
  exact⟨m,p,rfl,q⟩
 | lean=>
  refine⟨_,a.dC,rfl,gy .lean,?_⟩
  walk_at "m2"
  refine .inr (.inr ⟨rfl,?_⟩)
  walk_at "m2"
  exact⟨m,p,rfl,q⟩
def Box (c:Int) (d:D):Prop:=∃ x m k:Int,d=.lst [.int x,.int m,.int k]∧0≤x∧0≤m∧m < 2147483647∧0≤k∧k≤c
theorem Box.up {c c':Int} {d:D} (b:Box c d) (h:c≤c'):Box c' d:=by
 obtain⟨x,m,k,e,h1,h2,h3,h4,h5⟩:=b
 exact⟨x,m,k,e,h1,h2,h3,h4,Int.le_trans h5 h⟩
def DX:S3:=fun Γ Q=>∃ (ns:List Int) (k:Int),Γ=[some (.fz (.scr ns)),some (.fz (.int k))]∧0≤k∧∀ r,Q (.fz (.int r)) Γ
theorem qt (T:Txt w K mg a):aM P w K mg base CX0 1 a.l9 a.kQ ["_law_script","_law_k"] (sp3 K 2 DX):=by
 refine ok3 T.gj.F p6 (hbody:=fun cdv A outer s H E hr=>⟨_,_,(ai (cf (bx sj (bv 1) (P3.opd (aO (l_ (by rfl)) (by rfl) T.z_len (by decide +kernel) (aa (bv 0) ae))) (bV _)) (ar (aC (aX (by rfl) (bv 0) (bv 1) (fun _ _=>rfl)))) bB)
   (ar (aC (aJ (P3.opd (cM (P3.opd af) (bv 1))) (P3.opd af))))),fun Γa Q h hl=>?_⟩)
 obtain⟨ns,k,rfl,hk,q⟩:=h
 walk_at "m2"
 refine g_ (fun h=>?_) (fun h=>?_)
 ·walk_at "m2"
  exact⟨_,AB hk (of_decide_eq_true h),q _⟩
 ·walk_at "m2"
  exact⟨.inl ⟨by decide,by decide⟩,q _⟩
def FR:S3:=fun Γ Q=>∃ (x:Int),Γ=[some (.fz (.int x))]∧∀ d,Box 0 d→Q (.fr d) Γ
theorem ny (T:Txt w K mg a):aM P w K mg base CX0 1 a.j0 a.jk ["_law_cell_here"] (sp3 K 1 FR):=by
 refine ok3 T.dW.F mZ (hbody:=fun cdv A outer s H E hr=>⟨_,_,(ar (aC (a8 (ab (aO (B4 rfl) (by rfl) T.z_max (by decide +kernel) (aa (P3.opd af) (aa (P3.opd (gO (bv 0) (P3.opd (xF (v:=1000000000000000000) (by decide +kernel) ⟨by decide,by decide,by decide⟩)))) ae))) (ab (lE (bv 0) (P3.opd af)) (ab af aj)))))),fun Γa Q h hl=>?_⟩)
 obtain⟨x,rfl,q⟩:=h
 walk_at "m2"
 exact⟨by decide,by rw[sizeLine_eq];omega,q _ ⟨_,_,_,rfl,by unfold fmax;split <;> omega,Int.emod_nonneg _ (by decide),Int.emod_lt_of_pos _ (by decide),by decide,by decide⟩⟩
theorem yX {i j m:Int} (h:0 < m) (h2:m < 2 ^ 64):sF (i % m) j:=.inl ⟨by have:=Int.emod_nonneg i (show m≠0 by omega);omega,by have:=Int.emod_lt_of_pos i h;omega⟩
def Cn:S3:=fun Γ Q=>∃ (d:D) (c n:Int),Γ=[some (.ln d),some (.fz (.int n))]∧Box c d∧c≤1000000∧0 < n∧n≤1000000000∧∀ r d',0≤r→r < n→Box (c + 1) d'→Q (.fz (.int r)) [some (.ln d'),some (.fz (.int n))]
theorem bS (T:Txt w K mg a):aM P w K mg base CX0 1 a.l0 a.kP ["_law_stream_here","_law_many"] (sp3 K 2 Cn):=by
 refine ok3 T.aw.F eU (hbody:=fun cdv A outer s H E hr=>⟨_,_,(ai (rh 0 (bv 0) (P3.opd af) (aJ (P3.opd (aX (by rfl) (bv 0) (P3.opd af) (fun _ _=>rfl))) (P3.opd af)))
   (ai (cf (bx FP (P3.opd (aX (by rfl) (bv 0) (P3.opd af) (fun _ _=>rfl))) (P3.opd af) (bV _)) (ai (aB (i:=2) eU.nd rfl (Or.inl rfl) (lE (P3.opd (aX (by rfl) (bv 0) (P3.opd af) (fun _ _=>rfl))) (bv 1)))
   (ai (rh 0 (bv 0) (P3.opd af) (dq (P3.opd (aX (by rfl) (bv 0) (P3.opd af) (fun _ _=>rfl))) (bv 1)))
   (ar (aC (xE 2))))) bB)
   (ai (aB (i:=3) eU.nd rfl (Or.inl rfl) (lE (P3.opd (cM (P3.opd (aJ (P3.opd (aX (by rfl) (bv 0) (P3.opd af) (fun _ _=>rfl))) (P3.opd (cM (P3.opd af) (P3.opd (aX (by rfl) (bv 0) (P3.opd af) (fun _ _=>rfl))))))) (P3.opd af))) (P3.opd af)))
   (ai (aB (i:=3) eU.nd rfl (Or.inl rfl) (lE (P3.opd (cM (bv 3) (bv 3))) (P3.opd af)))
   (ar (aC (lE (P3.opd (dq (P3.opd (lE (P3.opd (aJ (P3.opd (cM (bv 3) (P3.opd (aJ (bv 3) (P3.opd af))))) (P3.opd (cM (P3.opd af) (P3.opd (aX (by rfl) (bv 0) (P3.opd af) (fun _ _=>rfl))))))) (P3.opd af))) (P3.opd af))) (bv 1)))))))),fun Γa Q h hl=>?_⟩)
 obtain⟨_,c,n,rfl,⟨x,m,k,rfl,hx,hm,hm2,hk,hk2⟩,hc,hn,hn2,q⟩:=h
 walk_at "m2"
 refine g_ (fun e=>?_) (fun e=>?_)
 ·walk_at "m2"
  exact⟨hn,⟨hn,by omega⟩,q _ _ (Int.emod_nonneg _ (by omega)) (Int.emod_lt_of_pos _ hn) ⟨_,_,_,rfl,Int.ediv_nonneg hx (by omega),hm,hm2,by omega,by omega⟩⟩
 ·walk_at "m2"
  exact⟨.inl ⟨by decide,by decide⟩,.inr ⟨by decide,by decide⟩,by decide,yX (by decide) (by decide),by decide,yX (by decide) (by decide),.inl ⟨by decide,by decide⟩,by decide,⟨by decide,by decide⟩,hn,q _ _ (Int.emod_nonneg _ (by omega)) (Int.emod_lt_of_pos _ hn) ⟨_,_,_,rfl,hx,hm,hm2,by omega,by omega⟩⟩
theorem pick {p:D→Prop} {xs:List D} {r:Int} {k:D→Prop} {t:Tag k} (h0:0≤r) (h1:r < (xs.length:Int)) (hp:∀ x∈xs,p x) (q:∀ v,p v→k v):m1 (atI xs r) k t:=by
 obtain⟨d,h2,h3⟩:=AE h0 h1
 exact bL.mpr ⟨d,h2,q d (hp d h3)⟩
def GP (a:Ad):S3:=fun Γ Q=>∃ (i:Int),Γ=[some (.fz (.int i))]∧Q (.fz (.bl true)) Γ
theorem om (T:Txt w K mg a):aM P w K mg base CX0 1 a.kU a.jX ["_law_thing"] (sp3 K 1 (GP a)):=by
 refine ok3 T.eS.F oi (hbody:=fun cdv A outer s H E hr=>⟨_,_,(ar (aC (Dd (aO (B5 T.ty) (by rfl) T.z_isinstance (by decide +kernel) (aa (bv 0) (aa (P3.opd (lR (n:="int") (by rfl) T.z_int (by decide +kernel))) ae))) (C9 (C_ (aO (vf T.ty) (by rfl) T.z_isinstance (by decide +kernel) (aa (bv 0) (aa (P3.opd (lR (n:="bool") (by rfl) T.z_bool (by decide +kernel))) ae)))))))),fun Γa Q h hl=>?_⟩)
 obtain⟨i,rfl,q⟩:=h
 walk_at "m2"
 unfold xQ
 walk_at "m2"
 exact q
abbrev nl (ns:List Nat):D:=.lst (ns.map fun n:Nat=>D.int (n:Int))
theorem cI (x y:Nat):Builtin.bitOr (x:Int) (y:Int)=((x ||| y:Nat):Int):=by
 have b1:∀ z:Int,Builtin.bitNot (Builtin.bitNot z)=z:=fun z=>by unfold Builtin.bitNot;omega
 have b2:∀ z:Nat,decide (Builtin.bitNot (z:Int)≥0)=false:=fun z=>by unfold Builtin.bitNot;simp;omega
 unfold Builtin.bitOr Builtin.bitAnd
 rw[b2,b2]
 simp only[b1,Int.toNat_natCast]
theorem ze (x:Nat):Builtin.bitAnd (x:Int) 1=((x % 2:Nat):Int):=by
 unfold Builtin.bitAnd
 rw[show decide ((x:Int)≥0)=true by simp,show decide ((1:Int)≥0)=true by decide]
 simp only[Int.toNat_natCast]
 rw[show (1:Int).toNat=1 from rfl,Nat.and_one_is_mod]
theorem Ax {α:Type} (f:α→D) (F:List α) (k:Nat):cut (F.map f) (some (k:Int)) (some ((k:Int) + 1))=((F.drop k).take 1).map f:=by
 have e1:HT.sIx F.length 0 (some (k:Int))=min k F.length:=HT.ik _ _ _
 have e2:HT.sIx F.length F.length (some ((k:Int) + 1))=min (k + 1) F.length:=HT.ik _ _ (k + 1)
 unfold cut
 rw[List.length_map,e1,e2,← List.map_drop,← List.map_take]
 by_cases h:k < F.length
 ·rw[Nat.min_eq_left (by omega),Nat.min_eq_left (by omega),Nat.add_sub_cancel_left]
 ·rw[List.drop_of_length_le (by omega),List.drop_of_length_le (by omega),List.take_nil,List.take_nil]
def nE (f g:List Nat):Nat→List Nat
 | 0=>[]
 | k + 1=>nE f g k++(f.getD k 0::(g.drop k).take 1)
theorem rM {f g:List Nat}:∀ k,(nE f g k).length≤2 * k
 | 0=>by simp [nE]
 | k + 1=>by
  have:=rM (f:=f) (g:=g) k
  rw[nE,List.length_append,List.length_cons,List.length_take]
  omega
def Fb:S3:=fun Γ Q=>∃ (f g:List Nat),Γ=[some (.fz (nl f)),some (.fz (nl g))]∧f.length≤100∧g.length≤100∧Q (.fr (nl (nE f g f.length))) Γ
theorem jU (T:Txt w K mg a):aM P w K mg base CX0 1 a.kX a.jZ ["_law_firsts","_law_seconds"] (sp3 K 2 Fb):=by
 refine ok3 T.b8.F dZ (hbody:=fun cdv A outer s H E hr=>⟨_,_,(ai (aB (i:=2) dZ.nd rfl (Or.inl rfl) (a8 aj))
   (ai (lC PassesOwn.never rfl (Ar (by rfl) T.z_enumerate (ab (p3v 0) aj)) (DP (is:=[3,4]) (by rfl) (rE (qg (i:=3) dZ.nd rfl (Or.inl rfl)) (rE (qg (i:=4) dZ.nd rfl (Or.inl rfl)) zY)) rfl)
   (ar (jB (oQ 2 (by rfl) (bv 2) (P3.opd (aJ (P3.opd (a8 (ab (p3v 4) aj))) (P3.opd (bh (by rfl) (bv 1) (aW (bv 3)) (aW (P3.opd (aJ (bv 3) (P3.opd af))))))))))))
   (ar (aC (xE 2))))),fun Γa Q h hl=>?_⟩)
 obtain⟨f,g,rfl,hf,hg,q⟩:=h
 walk_at "m2"
 refine⟨sl2 (by decide),g4 (fun k Γ=>k≤f.length∧∃ s s',Γ=[some (.fz (nl f)),some (.fz (nl g)),some (.ow (nl (nE f g k))),fo s,fo s']) ⟨Nat.zero_le _,none,none,rfl⟩ ?_ ?_⟩
 ·rintro k d Γ hd ⟨hk,s,s',rfl⟩
  obtain⟨x,hx,rfl⟩:=lP hd
  rw[List.getElem?_map] at hx
  have lt:k < f.length:=by
   cases z:f[k]? with
   | none=>rw[z] at hx;cases hx
   | some _=>exact ke z
  have e:x=.int ((f.getD k 0:Nat):Int):=by rw[List.getElem?_eq_getElem lt] at hx;cases hx;rw[List.getD_eq_getElem?_getD,List.getElem?_eq_getElem lt];rfl
  subst e
  have l1:=rM (f:=f) (g:=g) k
  walk_at "m2"
  rw[Ax (fun n:Nat=>D.int (n:Int)) g k]
  have l2:(((g.drop k).take 1).map fun n:Nat=>D.int (n:Int)).length≤1:=by rw[List.length_map,List.length_take];omega
  refine⟨sl2 (by decide),sl2 (by omega),sl2 (by rw[List.length_map];omega),lt,some (.int (k:Int)),some (.int ((f.getD k 0:Nat):Int)),?_⟩
  have e3:nl (nE f g (k + 1))=D.lst (List.map (fun n:Nat=>D.int (n:Int)) (nE f g k)++D.int ((f.getD k 0:Nat):Int)::List.map (fun n:Nat=>D.int (n:Int)) ((g.drop k).take 1)):=by rw[nl,nE,List.map_append,List.map_cons]
  rw[e3]
  rfl
 ·rintro Γ ⟨hk,s,s',rfl⟩
  walk_at "m2"
  rw[show (o_ (List.map (fun n:Nat=>D.int (n:Int)) f)).length=f.length by unfold o_;simp]
  exact q
def GQ:S3:=fun Γ Q=>∃ (x n:Nat),Γ=[some (.fz (.int (x:Int))),some (.fz (.int (n:Int)))]∧n≤64∧Q (.fr (.lst (((List.range n).filter fun k=>x / 2 ^ k % 2 == 1).map fun k:Nat=>D.int (k:Int)))) Γ
theorem nz (T:Txt w K mg a):aM P w K mg base CX0 1 a.j4 a.jm ["_law_mask","_law_many"] (sp3 K 2 GQ):=by
 refine ok3 T.dX.F m4 (hbody:=fun cdv A outer s H E hr=>⟨_,_,(ar (aC (nk rfl (bP (by rfl) T.z_range (ab (p3v 1) aj)) gD (fun _ _ _ _ _=>(bq (i:=0) gD.nd rfl (Or.inl rfl))) (fun _ _ _ _ _=>(bx (kq (by rfl) hr) (P3.opd (z_ (P3.opd (C7 (bv 1) (bv 0))) (P3.opd af))) (P3.opd af) (bV _))) (fun _ _ _ _ _=>(p3v 0))))),fun Γa Q h hl=>?_⟩)
 obtain⟨x,n,rfl,hn,q⟩:=h
 walk_at "m2"
 rw[Int.toNat_natCast]
 have hb:∀ k:Nat,Builtin.bitAnd ((x:Int) / 2 ^ k) 1=((x / 2 ^ k % 2:Nat):Int):=fun k=>by
  rw[show (x:Int) / 2 ^ k=((x / 2 ^ k:Nat):Int) by simp]
  exact ze _
 refine⟨by omega,by omega,g6 (fun k ys Γc=>k≤n∧ys=(((List.range k).filter fun k=>x / 2 ^ k % 2 == 1).map fun k:Nat=>D.int (k:Int))∧∃ s,Γc=[fo s,some (.fz (.int (x:Int)))]) ⟨Nat.zero_le _,rfl,none,rfl⟩ ?_ ?_⟩
 ·rintro k d ys Γc hd ⟨hk,rfl,s,rfl⟩
  obtain⟨lt,rfl⟩:=cS hd
  have fl:=List.length_filter_le (fun k=>x / 2 ^ k % 2 == 1) (List.range k)
  rw[List.length_range] at fl
  walk_at "m2"
  rw[Int.toNat_natCast,hb]
  refine⟨by omega,?_⟩
  by_cases e:x / 2 ^ k % 2=1
  ·rw[show (((x / 2 ^ k % 2:Nat):Int) == 1)=true by rw[e];rfl]
   refine⟨small (by rw[List.length_map];omega),lt,?_,some _,rfl⟩
   rw[List.range_succ,List.filter_append,List.filter_cons_of_pos (by rw[e];rfl),List.map_append];rfl
  ·have e0:x / 2 ^ k % 2=0:=by omega
   rw[show (((x / 2 ^ k % 2:Nat):Int) == 1)=false by rw[e0];rfl]
   refine⟨lt,?_,some _,rfl⟩
   rw[List.range_succ,List.filter_append,List.filter_cons_of_neg (by rw[e0];decide)];simp
 ·rintro ys Γc ⟨hk,rfl,s,rfl⟩
  rw[bD]
  have fl:=List.length_filter_le (fun k=>x / 2 ^ k % 2 == 1) (List.range n)
  rw[List.length_range] at fl
  exact⟨small (by rw[List.length_map];omega),q⟩
def gd (r:List Nat) (k:Nat):Nat:=r.getD k 0
def bo (r:List Nat):List Nat:=(List.range (r.length / 2)).map fun k=>gd r (2 * k) ||| gd r (2 * k + 1)
def su (r:List Nat):List Nat:=bo r++r.drop (2 * (r.length / 2))
def cc (r:List Nat):List Nat:=r.drop (r.length - 1)
def evs (r:List Nat):List Nat:=(List.range ((r.length + 1) / 2)).map fun k=>gd r (2 * k)
def tri (f g h:List Nat) (n:Nat):List Nat:=(List.range n).map fun k=>gd f k ||| gd g k ||| gd h k
def mpG (r:List Nat):List Nat:=
 let fi:=evs r
 let la:=fi.drop 1++cc fi
 let fn:=(List.range (r.length / 2)).map fun k=>gd (bo r) k ||| gd la k
 tri fi (fn.take 1++fn) (fn++cc fn) fi.length++fn
def mpL (r:List Nat):List Nat:=
 let s:=su r
 s++tri (bo r) (s.take 1++s) (s.drop 1++cc s) (r.length / 2)
def mp:Rl→List Nat→List Nat
 | .guess=>mpG | .lean=>mpL | _=>fun r=>su r++bo r
def mjG (r:List Nat):List Nat:=
 let n:=r.length / 2
 let s:=r.take (r.length - n)
 let fn:=r.drop (r.length - n)
 let fi:=tri s (fn.take 1++fn) (fn++cc fn) s.length
 let la:=fi.drop 1++cc fi
 nE fi (tri fn fi la n) fi.length
def mjO (l:Bool) (r:List Nat):List Nat:=
 let n:=r.length / 2
 let s:=r.take (r.length - n)
 let fn:=r.drop (r.length - n)
 let b0:=(List.range n).map fun k=>gd s k ||| gd fn k
 let b:=if l then tri b0 (s.take 1++s) (s.drop 1++cc s) n else b0
 nE (b++s.drop n) b (b++s.drop n).length
def mj:Rl→List Nat→List Nat
 | .guess=>mjG | .lean=>mjO true | _=>mjO false
def nD (m:Nat):List Nat:=(List.range m).map fun k=>2 ^ k
def msk (xs:List Int):Nat:=xs.foldr (fun x acc=>2 ^ x.toNat ||| acc) 0
def rise (m:Int):Int→List Int→Bool
 | _,[]=>true
 | p,x::r=>decide (p < x) && decide (x < m) && rise m x r
def FJ (R:Rl) (m:Nat):Bool:=let M:=mp R (nD m);M.length == m && (List.range m).all fun p=>rise m (-1) (R.sp m p) && msk (R.sp m p) == gd M p
def FK (R:Rl) (m:Nat):Bool:=let M:=mj R (nD m);M.length == m && (List.range m).all fun p=>rise m (-1) (R.bk m p) && msk (R.bk m p) == gd M p
theorem rk {m:Int}:∀ {xs:List Int} {p:Int},rise m p xs=true→(∀ x∈xs,p < x∧x < m)∧xs.Pairwise (· < ·)
 | [],p,_=>⟨fun x hx=>by simp at hx,List.Pairwise.nil⟩
 | y::r,p,h=>by
  simp only[rise,Bool.and_eq_true,decide_eq_true_eq] at h
  obtain⟨⟨h1,h2⟩,h3⟩:=h
  obtain⟨a1,a2⟩:=rk h3
  refine⟨fun x hx=>?_,List.pairwise_cons.mpr ⟨fun z hz=>(a1 z hz).1,a2⟩⟩
  rcases List.mem_cons.mp hx with rfl | hx
  ·exact⟨h1,h2⟩
  ·exact⟨Int.lt_trans h1 (a1 x hx).1,(a1 x hx).2⟩
theorem qQ:∀ (xs:List Int),(∀ x∈xs,0≤x)→∀ k:Nat,(msk xs).testBit k=decide ((k:Int)∈xs)
 | [],_,k=>by simp [msk]
 | x::r,h,k=>by
  have ih:=qQ r (fun y hy=>h y (List.mem_cons_of_mem _ hy)) k
  have hx:=h x (by simp)
  show (2 ^ x.toNat ||| msk r).testBit k=_
  rw[Nat.testBit_or,Nat.testBit_two_pow,ih,← Bool.decide_or,decide_eq_decide,List.mem_cons]
  constructor
  ·rintro(e | e)
   ·exact .inl (by omega)
   ·exact .inr e
  ·rintro(e | e)
   ·exact .inl (by omega)
   ·exact .inr e
theorem nG {m:Nat} {xs:List Int} (h:rise m (-1) xs=true):((List.range m).filter fun k=>msk xs / 2 ^ k % 2 == 1).map (fun k:Nat=>(k:Int))=xs:=by
 obtain⟨a1,a2⟩:=rk h
 refine p8 ?_ a2 fun x=>?_
 ·rw[List.pairwise_map]
  exact(List.pairwise_lt_range.filter _).imp fun h=>by omega
 ·rw[List.mem_map]
  constructor
  ·rintro⟨k,hk,rfl⟩
   have e:=(List.mem_filter.mp hk).2
   have:=qQ xs (fun x hx=>by have:=(a1 x hx).1;omega) k
   rw[Nat.testBit_eq_decide_div_mod_eq] at this
   exact of_decide_eq_true (this.symm.trans (by simpa using e))
  ·intro hx
   have hb:=a1 x hx
   refine⟨x.toNat,List.mem_filter.mpr ⟨List.mem_range.mpr (by omega),?_⟩,by omega⟩
   have:=qQ xs (fun x hx=>by have:=(a1 x hx).1;omega) x.toNat
   rw[Nat.testBit_eq_decide_div_mod_eq,Int.toNat_of_nonneg (by omega),decide_eq_true hx] at this
   simpa using this
theorem bN {ns:List Nat} {k:Nat} (h:k < ns.length):atI (ns.map fun n:Nat=>D.int (n:Int)) (k:Int)=some (.int ((gd ns k:Nat):Int)):=k7 (by omega) (by
 rw[Int.toNat_natCast,List.getElem?_map,List.getElem?_eq_getElem h,gd,List.getD_eq_getElem?_getD,List.getElem?_eq_getElem h];rfl)
theorem uX {α:Type} (f:α→D) (F:List α):cut (F.map f) none (some 1)=(F.take 1).map f:=by
 have e2:HT.sIx F.length F.length (some (1:Int))=min 1 F.length:=HT.ik _ _ 1
 unfold cut
 rw[List.length_map,HT.gW,e2,List.drop_zero,Nat.sub_zero,← List.map_take]
 cases F <;> rfl
theorem uY {α:Type} (f:α→D) (F:List α):cut (F.map f) (some 1) none=(F.drop 1).map f:=by
 have e1:HT.sIx F.length 0 (some (1:Int))=min 1 F.length:=HT.ik _ _ 1
 unfold cut
 rw[List.length_map,HT.gW,e1,← List.map_drop,← List.map_take,List.take_of_length_le (by rw[List.length_drop];exact Nat.le_refl _)]
 cases F with
 | nil=>rfl
 | cons x r=>rw[Nat.min_eq_left (by rw[List.length_cons];omega)]
theorem ph (f:Nat→D) (F:List Nat) (h:1≤F.length):cut (F.map f) (some (-1)) none=(cc F).map f:=by
 have e1:HT.sIx F.length 0 (some (-1:Int))=F.length - 1:=by
  show (if (-1:Int) < 0 then (-1 + (F.length:Int)).toNat else min (-1:Int).toNat F.length)=_
  rw[if_pos (by decide)];omega
 unfold cut cc
 rw[List.length_map,HT.gW,e1,← List.map_drop,← List.map_take,List.take_of_length_le (by rw[List.length_drop];exact Nat.le_refl _)]
theorem pk0 (ns:List Int):pk (ns.map D.int) (some 0) none (some 2)=(List.range ((ns.length + 1) / 2)).map fun k=>D.int (ns.getD (2 * k) 0):=by
 have h:=EO ns
 have e:lQ (ns.map V.int) (some 0) none (some 2)=(pk ns (some 0) none (some 2)).map V.int:=xo V.int ns _ _ _
 rw[e,show (List.range ((ns.length + 1) / 2)).map (fun k=>V.int (ns.getD (2 * k) 0))=((List.range ((ns.length + 1) / 2)).map fun k=>ns.getD (2 * k) 0).map V.int by rw[List.map_map];rfl] at h
 have inj:∀ {a b:List Int},a.map V.int=b.map V.int→a=b:=fun {a b} h=>List.map_inj_right (fun _ _ q=>by cases q;rfl) |>.mp h
 rw[xo,inj h,List.map_map];rfl
theorem As (r:List Nat) (k:Nat):(r.map fun n:Nat=>(n:Int)).getD k 0=((gd r k:Nat):Int):=by
 rw[List.getD_eq_getElem?_getD,List.getElem?_map,gd,List.getD_eq_getElem?_getD]
 cases r[k]? <;> rfl
theorem GW (r:List Nat):pk (r.map fun n:Nat=>D.int (n:Int)) none none (some 2)=(evs r).map fun n:Nat=>D.int (n:Int):=by
 have e:(r.map fun n:Nat=>D.int (n:Int))=(r.map fun n:Nat=>(n:Int)).map D.int:=by rw[List.map_map];rfl
 have e0:∀ xs:List D,pk xs none none (some 2)=pk xs (some 0) none (some 2):=fun xs=>by unfold pk sliceBounds;simp;rw[show max 0 (min 0 (xs.length:Int))=0 by omega]
 rw[e,e0,pk0,List.length_map]
 unfold evs
 rw[List.map_map]
 refine List.map_congr_left fun k _=>?_
 rw[As];rfl
def GN:S3:=fun Γ Q=>∃ (R:Rl) (r:List Nat),Γ=[some (.fz (.str R.word)),some (.fz (nl r))]∧2≤r.length∧r.length≤64∧Q (.fr (nl (mp R r))) Γ
theorem jc (T:Txt w K mg a):aM P w K mg base CX0 1 a.eQ a.eD ["_law_word","_law_row"] (sp3 K 2 GN):=by
 refine ok3 T.bY.F ax (hbody:=fun cdv A outer s H E hr=>⟨_,_,(ai (aB (i:=2) ax.nd rfl (Or.inl rfl) (dq (P3.opd (aO (l_ (by rfl)) (by rfl) T.z_len (by decide +kernel) (aa (bv 1) ae))) (P3.opd af)))
   (ai (aB (i:=3) ax.nd rfl (Or.inr rfl) (gq rfl (bP (by rfl) T.z_range (ab (p3v 2) aj)) c5 (fun _ _ _ _ _=>(bq (i:=0) c5.nd rfl (Or.inl rfl))) (fun _ _ _ _ _=>(dQ (P3.opd (aX (by rfl) (bv 1) (P3.opd (cM (P3.opd af) (bv 0))) (fun _ _=>rfl))) (P3.opd (aX (by rfl) (bv 1) (P3.opd (aJ (P3.opd (cM (P3.opd af) (bv 0))) (P3.opd af))) (fun _ _=>rfl)))))))
   (ai (aB (i:=4) ax.nd rfl (Or.inl rfl) (aJ (bv 3) (P3.opd (bh (by rfl) (bv 1) (aW (P3.opd (cM (P3.opd af) (bv 2)))) aZ))))
   (ai (cf (bx (kq (by rfl) hr) (bv 0) (P3.opd bg) (bV _)) (ai (aB (i:=5) ax.nd rfl (Or.inr rfl) (vK (by rfl) (bv 1) aZ aZ (aW (P3.opd af))))
   (ai (aB (i:=6) ax.nd rfl (Or.inr rfl) (aJ (P3.opd (bh (by rfl) (bv 5) (aW (P3.opd af)) aZ)) (P3.opd (bh (by rfl) (bv 5) (aW (P3.opd (kb (P3.opd af)))) aZ))))
   (ai (m7 (i:=7) ax.nd rfl rfl rfl (bP (by rfl) T.z_range (ab (p3v 2) aj)) c6 (fun _ _ _ _ _=>(bq (i:=0) c6.nd rfl (Or.inl rfl))) (fun _ _ _ _ _=>(dQ (P3.opd (aX (by rfl) (bv 1) (bv 0) (fun _ _=>rfl))) (P3.opd (aX (by rfl) (bv 2) (bv 0) (fun _ _=>rfl))))))
   (ai (aB (i:=8) ax.nd rfl (Or.inr rfl) (aJ (P3.opd (bh (by rfl) (bv 7) aZ (aW (P3.opd af)))) (bv 7)))
   (ai (aB (i:=9) ax.nd rfl (Or.inr rfl) (aJ (bv 7) (P3.opd (bh (by rfl) (bv 7) (aW (P3.opd (kb (P3.opd af)))) aZ))))
   (ar (aC (aJ (P3.opd (gq rfl (bP (by rfl) T.z_range (ab (aO (l_ (by rfl)) (by rfl) T.z_len (by decide +kernel) (aa (bv 5) ae)) aj)) c7 (fun _ _ _ _ _=>(bq (i:=0) c7.nd rfl (Or.inl rfl))) (fun _ _ _ _ _=>(dQ (P3.opd (dQ (P3.opd (aX (by rfl) (bv 3) (bv 0) (fun _ _=>rfl))) (P3.opd (aX (by rfl) (bv 1) (bv 0) (fun _ _=>rfl))))) (P3.opd (aX (by rfl) (bv 2) (bv 0) (fun _ _=>rfl))))))) (bv 7))))))))) bB)
   (ai (cf (bx (kq (by rfl) hr) (bv 0) (P3.opd bg) (bV _)) (ai (aB (i:=8) ax.nd rfl (Or.inr rfl) (aJ (P3.opd (bh (by rfl) (bv 4) aZ (aW (P3.opd af)))) (bv 4)))
   (ai (aB (i:=9) ax.nd rfl (Or.inr rfl) (aJ (P3.opd (bh (by rfl) (bv 4) (aW (P3.opd af)) aZ)) (P3.opd (bh (by rfl) (bv 4) (aW (P3.opd (kb (P3.opd af)))) aZ))))
   (ar (aB (i:=3) ax.nd rfl (Or.inr rfl) (gq rfl (bP (by rfl) T.z_range (ab (p3v 2) aj)) c8 (fun _ _ _ _ _=>(bq (i:=0) c8.nd rfl (Or.inl rfl))) (fun _ _ _ _ _=>(dQ (P3.opd (dQ (P3.opd (aX (by rfl) (bv 3) (bv 0) (fun _ _=>rfl))) (P3.opd (aX (by rfl) (bv 1) (bv 0) (fun _ _=>rfl))))) (P3.opd (aX (by rfl) (bv 2) (bv 0) (fun _ _=>rfl)))))))))) bB)
   (ar (aC (aJ (bv 4) (bv 3))))))))),fun Γa Q h hl=>?_⟩)
 obtain⟨R,r,rfl,h2,h64,q⟩:=h
 walk_at "m2"
 have en:((r.length:Int) / 2)=((r.length / 2:Nat):Int):=by omega
 rw[List.length_map,en,Int.toNat_natCast]
 refine⟨by unfold mE;omega,by omega,by omega,small (by rw[bD];omega),cR (fun k ys Γc=>k≤r.length / 2∧ys=((List.range k).map fun k=>D.int ((gd r (2 * k) ||| gd r (2 * k + 1):Nat):Int))∧∃ s,Γc=[fo s,some (.fz (nl r))]) ⟨Nat.zero_le _,rfl,none,rfl⟩ ?_ ?_⟩
 ·rintro k d ys Γc hd hy ⟨hk,rfl,s,rfl⟩
  obtain⟨lt,rfl⟩:=cS hd
  have e1:(2 * (k:Int))=((2 * k:Nat):Int):=by omega
  have e2:(((2 * k:Nat):Int) + 1)=((2 * k + 1:Nat):Int):=by omega
  walk_at "m2"
  rw[e1]
  refine⟨cm2,bL.mpr ⟨_,bN (by omega),?_⟩⟩
  walk_at "m2"
  rw[e1,e2]
  refine⟨cm2,bL.mpr ⟨_,bN (by omega),?_⟩⟩
  walk_at "m2"
  rw[cI]
  exact⟨lt,snoc rfl,some _,rfl⟩
 ·rintro ys Γc hy ⟨hk,rfl,s,rfl⟩
  rw[bD]
  have eb:((List.range (r.length / 2)).map fun k=>D.int ((gd r (2 * k) ||| gd r (2 * k + 1):Nat):Int))=(bo r).map fun n:Nat=>D.int (n:Int):=by unfold bo;rw[List.map_map];rfl
  rw[eb]
  have e2n:(2 * ((r.length / 2:Nat):Int))=((2 * (r.length / 2):Nat):Int):=by omega
  have ct:cut (r.map fun n:Nat=>D.int (n:Int)) (some ((2 * (r.length / 2):Nat):Int)) none=(r.drop (2 * (r.length / 2))).map fun n:Nat=>D.int (n:Int):=by
   unfold cut
   rw[HT.gW,HT.ik,List.length_map,Nat.min_eq_left (by omega),List.take_of_length_le (by rw[List.length_drop,List.length_map];exact Nat.le_refl _),List.map_drop]
  have lb:(bo r).length=r.length / 2:=by unfold bo;simp
  walk_at "m2"
  rw[e2n,ct,← List.map_append]
  refine⟨cm2,sl2 (by rw[List.length_map,List.length_map,List.length_drop];omega),?_⟩
  have ls:(su r).length=(r.length + 1) / 2:=by unfold su;rw[List.length_append,lb,List.length_drop];omega
  rw[show bo r++r.drop (2 * (r.length / 2))=su r from rfl]
  refine g_ (fun e=>?_) (fun e=>?_)
  ·have hR:R=.guess:=by cases R <;> first | rfl | exact absurd e (by decide +kernel)
   subst hR
   walk_at "m2"
   have lev:(evs r).length=(r.length + 1) / 2:=by unfold evs;simp
   rw[GW,uY,ph _ _ (by omega),Int.toNat_natCast,← List.map_append]
   have q':Q (RV.fr (nl (mpG r))) [some (Sl.fz (D.str Rl.guess.word)),some (Sl.fz (nl r))]:=q
   unfold mpG at q'
   dsimp only at q'
   have lla:((evs r).drop 1++cc (evs r)).length=(r.length + 1) / 2:=by unfold cc;rw[List.length_append,List.length_drop,List.length_drop,lev];omega
   have ld:((evs r).drop 1).length≤64∧(cc (evs r)).length≤64:=by unfold cc;rw[List.length_drop,List.length_drop,lev];omega
   generalize (evs r).drop 1++cc (evs r)=LA at lla q' ⊢
   refine⟨by decide,sl2 (by rw[List.length_map,List.length_map];omega),by omega,by omega,small (by rw[bD];omega),cR (fun k ys Γc=>k≤r.length / 2∧ys=((List.range k).map fun k=>D.int ((gd (bo r) k ||| gd LA k:Nat):Int))∧∃ s,Γc=[fo s,some (.ln (nl (bo r))),some (.ln (nl LA))]) ⟨Nat.zero_le _,rfl,none,rfl⟩ ?_ ?_⟩
   ·rintro k d ys Γc hd hy ⟨hk,rfl,s,rfl⟩
    obtain⟨lt,rfl⟩:=cS hd
    walk_at "m2"
    refine bL.mpr ⟨_,bN (by omega),?_⟩
    walk_at "m2"
    refine bL.mpr ⟨_,bN (by omega),?_⟩
    walk_at "m2"
    rw[cI]
    exact⟨lt,snoc rfl,some _,rfl⟩
   ·rintro ys Γc hy ⟨hk,rfl,s,rfl⟩
    rw[bD]
    have ef:((List.range (r.length / 2)).map fun k=>D.int ((gd (bo r) k ||| gd LA k:Nat):Int))=((List.range (r.length / 2)).map fun k=>gd (bo r) k ||| gd LA k).map fun n:Nat=>D.int (n:Int):=by rw[List.map_map];rfl
    rw[ef]
    have lf:((List.range (r.length / 2)).map fun k=>gd (bo r) k ||| gd LA k).length=r.length / 2:=by simp
    generalize ((List.range (r.length / 2)).map fun k=>gd (bo r) k ||| gd LA k)=FN at lf q' ⊢
    walk_at "m2"
    rw[uX,ph _ _ (by omega),← List.map_append,← List.map_append]
    have l1:(FN.take 1++FN).length=r.length / 2 + 1:=by rw[List.length_append,List.length_take,lf];omega
    have l2:(FN++cc FN).length=r.length / 2 + 1:=by unfold cc;rw[List.length_append,List.length_drop,lf];omega
    have l3:(FN.take 1).length≤1∧(cc FN).length≤64:=by unfold cc;rw[List.length_take,List.length_drop,lf];omega
    generalize FN.take 1++FN=A1 at l1 q' ⊢
    generalize FN++cc FN=A2 at l2 q' ⊢
    rw[List.length_map (as:=evs r),Int.toNat_natCast]
    refine⟨sl2 (by rw[List.length_map,List.length_map];omega),sl2 (by rw[List.length_map,List.length_map];omega),by omega,by omega,small (by rw[bD];omega),cR (fun k ys Γc=>k≤(evs r).length∧ys=((List.range k).map fun k=>D.int ((gd (evs r) k ||| gd A1 k ||| gd A2 k:Nat):Int))∧∃ s,Γc=[fo s,some (.ln (nl A1)),some (.ln (nl A2)),some (.ln (nl (evs r)))]) ⟨Nat.zero_le _,rfl,none,rfl⟩ ?_ ?_⟩
    ·rintro k d ys Γc hd hy ⟨hk,rfl,s,rfl⟩
     obtain⟨lt,rfl⟩:=cS hd
     walk_at "m2"
     refine bL.mpr ⟨_,bN (by omega),?_⟩
     walk_at "m2"
     refine bL.mpr ⟨_,bN (by omega),?_⟩
     walk_at "m2"
     refine bL.mpr ⟨_,bN (by omega),?_⟩
     walk_at "m2"
     rw[cI,cI]
     exact⟨lt,snoc rfl,some _,rfl⟩
    ·rintro ys Γc hy ⟨hk,rfl,s,rfl⟩
     rw[bD]
     have et:((List.range (evs r).length).map fun k=>D.int ((gd (evs r) k ||| gd A1 k ||| gd A2 k:Nat):Int))=(tri (evs r) A1 A2 (evs r).length).map fun n:Nat=>D.int (n:Int):=by unfold tri;rw[List.map_map];rfl
     rw[et]
     have l4:(tri (evs r) A1 A2 (evs r).length).length=(evs r).length:=by unfold tri;simp
     generalize tri (evs r) A1 A2 (evs r).length=TR at l4 q' ⊢
     walk_at "m2"
     rw[← List.map_append]
     exact⟨sl2 (by rw[List.length_map,List.length_map];omega),q'⟩
  ·walk_at "m2"
   refine g_ (fun e'=>?_) (fun e'=>?_)
   ·have hR:R=.lean:=by cases R <;> first | rfl | exact absurd e' (by decide +kernel)
    subst hR
    walk_at "m2"
    rw[uX,uY,ph _ _ (by omega),Int.toNat_natCast,← List.map_append,← List.map_append]
    have q':Q (RV.fr (nl (su r++tri (bo r) ((su r).take 1++su r) ((su r).drop 1++cc (su r)) (r.length / 2)))) [some (Sl.fz (D.str Rl.lean.word)),some (Sl.fz (nl r))]:=q
    have la:((su r).take 1++su r).length=(r.length + 1) / 2 + 1:=by rw[List.length_append,List.length_take,ls];omega
    have lc:((su r).drop 1++cc (su r)).length=(r.length + 1) / 2:=by unfold cc;rw[List.length_append,List.length_drop,List.length_drop,ls];omega
    have ld:((su r).drop 1).length≤64∧(cc (su r)).length≤64:=by unfold cc;rw[List.length_drop,List.length_drop,ls];omega
    have lt1:((su r).take 1).length≤1:=by rw[List.length_take];omega
    generalize (su r).take 1++su r=A1 at la q' ⊢
    generalize (su r).drop 1++cc (su r)=A2 at lc q' ⊢
    refine⟨sl2 (by rw[List.length_map,List.length_map];omega),sl2 (by rw[List.length_map,List.length_map];omega),by omega,by omega,small (by rw[bD];omega),cR (fun k ys Γc=>k≤r.length / 2∧ys=((List.range k).map fun k=>D.int ((gd (bo r) k ||| gd A1 k ||| gd A2 k:Nat):Int))∧∃ s,Γc=[fo s,some (.ln (nl A1)),some (.ln (nl A2)),some (.ln (nl (bo r)))]) ⟨Nat.zero_le _,rfl,none,rfl⟩ ?_ ?_⟩
    ·rintro k d ys Γc hd hy ⟨hk,rfl,s,rfl⟩
     obtain⟨lt,rfl⟩:=cS hd
     walk_at "m2"
     refine bL.mpr ⟨_,bN (by omega),?_⟩
     walk_at "m2"
     refine bL.mpr ⟨_,bN (by omega),?_⟩
     walk_at "m2"
     refine bL.mpr ⟨_,bN (by omega),?_⟩
     walk_at "m2"
     rw[cI,cI]
     exact⟨lt,snoc rfl,some _,rfl⟩
    ·rintro ys Γc hy ⟨hk,rfl,s,rfl⟩
     rw[bD]
     walk_at "m2"
     have et:((List.range (r.length / 2)).map fun k=>D.int ((gd (bo r) k ||| gd A1 k ||| gd A2 k:Nat):Int))=(tri (bo r) A1 A2 (r.length / 2)).map fun n:Nat=>D.int (n:Int):=by unfold tri;rw[List.map_map];rfl
     rw[et,← List.map_append]
     exact⟨sl2 (by rw[List.length_map,List.length_map];unfold tri;rw[List.length_map,List.length_range];omega),q'⟩
   ·have hm:mp R r=su r++bo r:=by cases R <;> first | rfl | exact absurd e (by decide +kernel) | exact absurd e' (by decide +kernel)
    rw[hm] at q
    walk_at "m2"
    rw[← List.map_append]
    exact⟨sl2 (by rw[List.length_map,List.length_map];omega),q⟩
def Rl.tJ:Rl→Bool
 | .lean=>true | _=>false
def GO:S3:=fun Γ Q=>∃ (R:Rl) (r:List Nat),Γ=[some (.fz (.str R.word)),some (.fz (nl r))]∧2≤r.length∧r.length≤64∧Q (.fr (nl (mj R r))) Γ
theorem GZ (f:Nat→D) (F:List Nat) {n:Nat} (h:n≤F.length):cut (F.map f) none (some (n:Int))=(F.take n).map f:=by
 unfold cut
 rw[HT.gW,HT.ik,List.length_map,List.drop_zero,Nat.sub_zero,Nat.min_eq_left h,List.map_take]
theorem DV (f:Nat→D) (F:List Nat) {n:Nat} (h:n≤F.length):cut (F.map f) (some (n:Int)) none=(F.drop n).map f:=by
 unfold cut
 rw[HT.gW,HT.ik,List.length_map,Nat.min_eq_left h,List.take_of_length_le (by rw[List.length_drop,List.length_map];exact Nat.le_refl _),List.map_drop]
theorem jd (T:Txt w K mg a):aM P w K mg base CX0 2 a.eR a.eE ["_law_word","_law_row"] (sp3 K 2 GO):=by
 refine ok3 T.bZ.F ay (hbody:=fun cdv A outer s H E hr=>⟨_,_,(ai (aB (i:=2) ay.nd rfl (Or.inl rfl) (dq (P3.opd (aO (l_ (by rfl)) (by rfl) T.z_len (by decide +kernel) (aa (bv 1) ae))) (P3.opd af)))
   (ai (aB (i:=3) ay.nd rfl (Or.inr rfl) (bh (by rfl) (bv 1) aZ (aW (P3.opd (gO (P3.opd (aO (l_ (by rfl)) (by rfl) T.z_len (by decide +kernel) (aa (bv 1) ae))) (bv 2))))))
   (ai (aB (i:=4) ay.nd rfl (Or.inr rfl) (bh (by rfl) (bv 1) (aW (P3.opd (gO (P3.opd (aO (l_ (by rfl)) (by rfl) T.z_len (by decide +kernel) (aa (bv 1) ae))) (bv 2)))) aZ))
   (ai (cf (bx (kq (by rfl) hr) (bv 0) (P3.opd bg) (bV _)) (ai (aB (i:=5) ay.nd rfl (Or.inr rfl) (aJ (P3.opd (bh (by rfl) (bv 4) aZ (aW (P3.opd af)))) (bv 4)))
   (ai (aB (i:=6) ay.nd rfl (Or.inr rfl) (aJ (bv 4) (P3.opd (bh (by rfl) (bv 4) (aW (P3.opd (kb (P3.opd af)))) aZ))))
   (ai (aB (i:=7) ay.nd rfl (Or.inr rfl) (gq rfl (bP (by rfl) T.z_range (ab (aO (l_ (by rfl)) (by rfl) T.z_len (by decide +kernel) (aa (bv 3) ae)) aj)) c9 (fun _ _ _ _ _=>(bq (i:=0) c9.nd rfl (Or.inl rfl))) (fun _ _ _ _ _=>(dQ (P3.opd (dQ (P3.opd (aX (by rfl) (bv 3) (bv 0) (fun _ _=>rfl))) (P3.opd (aX (by rfl) (bv 1) (bv 0) (fun _ _=>rfl))))) (P3.opd (aX (by rfl) (bv 2) (bv 0) (fun _ _=>rfl)))))))
   (ai (aB (i:=8) ay.nd rfl (Or.inr rfl) (aJ (P3.opd (bh (by rfl) (bv 7) (aW (P3.opd af)) aZ)) (P3.opd (bh (by rfl) (bv 7) (aW (P3.opd (kb (P3.opd af)))) aZ))))
   (ar (aC (ao (by rfl) (jU T) hr.dn (by rfl) T.b8.m T.b8.F.kp T.b8.b (aa (P3.opd (p3v 7)) (aa (P3.opd (gq rfl (bP (by rfl) T.z_range (ab (p3v 2) aj)) c_ (fun _ _ _ _ _=>(bq (i:=0) c_.nd rfl (Or.inl rfl))) (fun _ _ _ _ _=>(dQ (P3.opd (dQ (P3.opd (aX (by rfl) (bv 1) (bv 0) (fun _ _=>rfl))) (P3.opd (aX (by rfl) (bv 2) (bv 0) (fun _ _=>rfl))))) (P3.opd (aX (by rfl) (bv 3) (bv 0) (fun _ _=>rfl))))))) ae))))))))) bB)
   (ai (aB (i:=9) ay.nd rfl (Or.inr rfl) (gq rfl (bP (by rfl) T.z_range (ab (p3v 2) aj)) de (fun _ _ _ _ _=>(bq (i:=0) de.nd rfl (Or.inl rfl))) (fun _ _ _ _ _=>(dQ (P3.opd (aX (by rfl) (bv 2) (bv 0) (fun _ _=>rfl))) (P3.opd (aX (by rfl) (bv 1) (bv 0) (fun _ _=>rfl)))))))
   (ai (cf (bx (kq (by rfl) hr) (bv 0) (P3.opd bg) (bV _)) (ai (aB (i:=5) ay.nd rfl (Or.inr rfl) (aJ (P3.opd (bh (by rfl) (bv 3) aZ (aW (P3.opd af)))) (bv 3)))
   (ai (aB (i:=6) ay.nd rfl (Or.inr rfl) (aJ (P3.opd (bh (by rfl) (bv 3) (aW (P3.opd af)) aZ)) (P3.opd (bh (by rfl) (bv 3) (aW (P3.opd (kb (P3.opd af)))) aZ))))
   (ar (aB (i:=9) ay.nd rfl (Or.inr rfl) (gq rfl (bP (by rfl) T.z_range (ab (p3v 2) aj)) df (fun _ _ _ _ _=>(bq (i:=0) df.nd rfl (Or.inl rfl))) (fun _ _ _ _ _=>(dQ (P3.opd (dQ (P3.opd (aX (by rfl) (bv 3) (bv 0) (fun _ _=>rfl))) (P3.opd (aX (by rfl) (bv 1) (bv 0) (fun _ _=>rfl))))) (P3.opd (aX (by rfl) (bv 2) (bv 0) (fun _ _=>rfl)))))))))) bB)
   (ar (aC (ao (by rfl) (jU T) hr.dn (by rfl) T.b8.m T.b8.F.kp T.b8.b (aa (P3.opd (aJ (bv 9) (P3.opd (bh (by rfl) (bv 3) (aW (bv 2)) aZ)))) (aa (P3.opd (p3v 9)) ae))))))))))),fun Γa Q h hl=>?_⟩)
 obtain⟨R,r,rfl,h2,h64,q⟩:=h
 have en:((r.length:Int) / 2)=((r.length / 2:Nat):Int):=by omega
 have em:((r.length:Int) - ((r.length / 2:Nat):Int))=((r.length - r.length / 2:Nat):Int):=by omega
 walk_at "m2"
 rw[List.length_map,en,em,GZ _ _ (by omega),DV _ _ (by omega)]
 have lS:(r.take (r.length - r.length / 2)).length=r.length - r.length / 2:=by rw[List.length_take];omega
 have lF:(r.drop (r.length - r.length / 2)).length=r.length / 2:=by rw[List.length_drop];omega
 have qG:R=.guess→Q (RV.fr (nl (mjG r))) [some (Sl.fz (D.str R.word)),some (Sl.fz (nl r))]:=fun h=>by subst h;exact q
 have qO:R≠.guess→Q (RV.fr (nl (mjO R.tJ r))) [some (Sl.fz (D.str R.word)),some (Sl.fz (nl r))]:=fun h=>by cases R <;> first | exact q | exact absurd rfl h
 unfold mjG at qG
 unfold mjO at qO
 dsimp only at qG qO
 generalize r.take (r.length - r.length / 2)=S at lS qG qO ⊢
 generalize r.drop (r.length - r.length / 2)=FN at lF qG qO ⊢
 refine⟨by unfold mE;omega,g_ (fun e=>?_) (fun e=>?_)⟩
 ·have hR:R=.guess:=by cases R <;> first | rfl | exact absurd e (by decide +kernel)
  have q':=qG hR
  walk_at "m2"
  rw[uX,ph _ _ (by omega),← List.map_append,← List.map_append]
  have l1:(FN.take 1++FN).length=r.length / 2 + 1:=by rw[List.length_append,List.length_take,lF];omega
  have l2:(FN++cc FN).length=r.length / 2 + 1:=by unfold cc;rw[List.length_append,List.length_drop,lF];omega
  have l3:(FN.take 1).length≤1∧(cc FN).length≤64:=by unfold cc;rw[List.length_take,List.length_drop,lF];omega
  generalize FN.take 1++FN=A1 at l1 q' ⊢
  generalize FN++cc FN=A2 at l2 q' ⊢
  rw[List.length_map (as:=S),Int.toNat_natCast]
  refine⟨sl2 (by rw[List.length_map,List.length_map];omega),sl2 (by rw[List.length_map,List.length_map];omega),by omega,by omega,small (by rw[bD];omega),cR (fun k ys Γc=>k≤S.length∧ys=((List.range k).map fun k=>D.int ((gd S k ||| gd A1 k ||| gd A2 k:Nat):Int))∧∃ s,Γc=[fo s,some (.ln (nl A1)),some (.ln (nl A2)),some (.ln (nl S))]) ⟨Nat.zero_le _,rfl,none,rfl⟩ ?_ ?_⟩
  ·rintro k d ys Γc hd hy ⟨hk,rfl,s,rfl⟩
   obtain⟨lt,rfl⟩:=cS hd
   walk_at "m2"
   refine bL.mpr ⟨_,bN (by omega),?_⟩
   walk_at "m2"
   refine bL.mpr ⟨_,bN (by omega),?_⟩
   walk_at "m2"
   refine bL.mpr ⟨_,bN (by omega),?_⟩
   walk_at "m2"
   rw[cI,cI]
   exact⟨lt,snoc rfl,some _,rfl⟩
  ·rintro ys Γc hy ⟨hk,rfl,s,rfl⟩
   rw[bD]
   have et:((List.range S.length).map fun k=>D.int ((gd S k ||| gd A1 k ||| gd A2 k:Nat):Int))=(tri S A1 A2 S.length).map fun n:Nat=>D.int (n:Int):=by unfold tri;rw[List.map_map];rfl
   rw[et]
   have l4:(tri S A1 A2 S.length).length=S.length:=by unfold tri;simp
   generalize tri S A1 A2 S.length=FI at l4 q' ⊢
   walk_at "m2"
   rw[uY,ph _ _ (by omega),← List.map_append]
   have l5:(FI.drop 1++cc FI).length=S.length:=by unfold cc;rw[List.length_append,List.length_drop,List.length_drop,l4];omega
   have l6:(FI.drop 1).length≤64∧(cc FI).length≤64:=by unfold cc;rw[List.length_drop,List.length_drop,l4];omega
   generalize FI.drop 1++cc FI=LA at l5 q' ⊢
   rw[Int.toNat_natCast]
   refine⟨sl2 (by rw[List.length_map,List.length_map];omega),by omega,by omega,small (by rw[bD];omega),cR (fun k ys Γc=>k≤r.length / 2∧ys=((List.range k).map fun k=>D.int ((gd FN k ||| gd FI k ||| gd LA k:Nat):Int))∧∃ s,Γc=[fo s,some (.ln (nl FN)),some (.fz (nl FI)),some (.ln (nl LA))]) ⟨Nat.zero_le _,rfl,none,rfl⟩ ?_ ?_⟩
   ·rintro k d ys Γc hd hy ⟨hk,rfl,s,rfl⟩
    obtain⟨lt,rfl⟩:=cS hd
    walk_at "m2"
    refine bL.mpr ⟨_,bN (by omega),?_⟩
    walk_at "m2"
    refine bL.mpr ⟨_,bN (by omega),?_⟩
    walk_at "m2"
    refine bL.mpr ⟨_,bN (by omega),?_⟩
    walk_at "m2"
    rw[cI,cI]
    exact⟨lt,snoc rfl,some _,rfl⟩
   ·rintro ys Γc hy ⟨hk,rfl,s,rfl⟩
    rw[bD]
    have et:((List.range (r.length / 2)).map fun k=>D.int ((gd FN k ||| gd FI k ||| gd LA k:Nat):Int))=(tri FN FI LA (r.length / 2)).map fun n:Nat=>D.int (n:Int):=by unfold tri;rw[List.map_map];rfl
    rw[et]
    have l7:(tri FN FI LA (r.length / 2)).length=r.length / 2:=by unfold tri;simp
    generalize tri FN FI LA (r.length / 2)=TR at l7 q' ⊢
    walk_at "m2"
    exact⟨FI,TR,rfl,by omega,by omega,q'⟩
 ·have hR:R≠.guess:=fun h=>by subst h;exact absurd e (by decide +kernel)
  have q':=qO hR
  walk_at "m2"
  rw[Int.toNat_natCast]
  refine⟨by omega,by omega,small (by rw[bD];omega),cR (fun k ys Γc=>k≤r.length / 2∧ys=((List.range k).map fun k=>D.int ((gd S k ||| gd FN k:Nat):Int))∧∃ s,Γc=[fo s,some (.ln (nl FN)),some (.ln (nl S))]) ⟨Nat.zero_le _,rfl,none,rfl⟩ ?_ ?_⟩
  ·rintro k d ys Γc hd hy ⟨hk,rfl,s,rfl⟩
   obtain⟨lt,rfl⟩:=cS hd
   walk_at "m2"
   refine bL.mpr ⟨_,bN (by omega),?_⟩
   walk_at "m2"
   refine bL.mpr ⟨_,bN (by omega),?_⟩
   walk_at "m2"
   rw[cI]
   exact⟨lt,snoc rfl,some _,rfl⟩
  ·rintro ys Γc hy ⟨hk,rfl,s,rfl⟩
   rw[bD]
   have ef:((List.range (r.length / 2)).map fun k=>D.int ((gd S k ||| gd FN k:Nat):Int))=((List.range (r.length / 2)).map fun k=>gd S k ||| gd FN k).map fun n:Nat=>D.int (n:Int):=by rw[List.map_map];rfl
   rw[ef]
   have lb:((List.range (r.length / 2)).map fun k=>gd S k ||| gd FN k).length=r.length / 2:=by simp
   generalize ((List.range (r.length / 2)).map fun k=>gd S k ||| gd FN k)=B0 at lb q' ⊢
   walk_at "m2"
   refine g_ (fun e'=>?_) (fun e'=>?_)
   ·have hR:R=.lean:=by cases R <;> first | rfl | exact absurd e' (by decide +kernel)
    subst hR
    rw[show Rl.lean.tJ=true from rfl] at q'
    simp only[if_true] at q'
    walk_at "m2"
    rw[uX,uY,ph _ _ (by omega),Int.toNat_natCast,← List.map_append,← List.map_append]
    have la:(S.take 1++S).length=S.length + 1:=by rw[List.length_append,List.length_take];omega
    have lc:(S.drop 1++cc S).length=S.length:=by unfold cc;rw[List.length_append,List.length_drop,List.length_drop];omega
    have ld:(S.take 1).length≤1∧(S.drop 1).length≤64∧(cc S).length≤64:=by unfold cc;rw[List.length_take,List.length_drop,List.length_drop];omega
    generalize S.take 1++S=A1 at la q' ⊢
    generalize S.drop 1++cc S=A2 at lc q' ⊢
    refine⟨sl2 (by rw[List.length_map,List.length_map];omega),sl2 (by rw[List.length_map,List.length_map];omega),by omega,by omega,small (by rw[bD];omega),cR (fun k ys Γc=>k≤r.length / 2∧ys=((List.range k).map fun k=>D.int ((gd B0 k ||| gd A1 k ||| gd A2 k:Nat):Int))∧∃ s,Γc=[fo s,some (.ln (nl A1)),some (.ln (nl A2)),some (.ln (nl B0))]) ⟨Nat.zero_le _,rfl,none,rfl⟩ ?_ ?_⟩
    ·rintro k d ys Γc hd hy ⟨hk,rfl,s,rfl⟩
     obtain⟨lt,rfl⟩:=cS hd
     walk_at "m2"
     refine bL.mpr ⟨_,bN (by omega),?_⟩
     walk_at "m2"
     refine bL.mpr ⟨_,bN (by omega),?_⟩
     walk_at "m2"
     refine bL.mpr ⟨_,bN (by omega),?_⟩
     walk_at "m2"
     rw[cI,cI]
     exact⟨lt,snoc rfl,some _,rfl⟩
    ·rintro ys Γc hy ⟨hk,rfl,s,rfl⟩
     rw[bD]
     have et:((List.range (r.length / 2)).map fun k=>D.int ((gd B0 k ||| gd A1 k ||| gd A2 k:Nat):Int))=(tri B0 A1 A2 (r.length / 2)).map fun n:Nat=>D.int (n:Int):=by unfold tri;rw[List.map_map];rfl
     rw[et]
     have l7:(tri B0 A1 A2 (r.length / 2)).length=r.length / 2:=by unfold tri;simp
     generalize tri B0 A1 A2 (r.length / 2)=TR at l7 q' ⊢
     walk_at "m2"
     rw[DV _ _ (by omega),← List.map_append]
     have l8:(TR++S.drop (r.length / 2)).length≤64:=by rw[List.length_append,List.length_drop];omega
     exact⟨sl2 (by rw[List.length_map,List.length_map,List.length_drop];omega),⟨TR++S.drop (r.length / 2),TR,rfl,by omega,by omega,q'⟩⟩
   ·have hR:R.tJ=false:=by cases R <;> first | rfl | exact absurd e' (by decide +kernel)
    rw[hR] at q'
    simp only[Bool.false_eq_true,if_false] at q'
    walk_at "m2"
    rw[DV _ _ (by omega),← List.map_append]
    have l8:(B0++S.drop (r.length / 2)).length≤64:=by rw[List.length_append,List.length_drop];omega
    exact⟨sl2 (by rw[List.length_map,List.length_map,List.length_drop];omega),⟨B0++S.drop (r.length / 2),B0,rfl,by omega,by omega,q'⟩⟩
def Rl.sel (R:Rl) (x1 x2 x3 x4:S3):S3:=match R with
 | .sum=>x1 | .half=>x2 | .guess=>x3 | .lean=>x4
def or4 (a:Ad) (m:Str) (n:Nat) (x1 x2 x3 x4:S3) (o3:TB3) (t3:cq) (Γ:G) (Q:RV→G→Prop) (_:Tag (m,n,x1,x2,x3,x4)) (_:Tag (o3,t3,Q)):Prop:=gZ a.a9 m n x1 o3 t3 Γ Q∨gZ a.aH m n x2 o3 t3 Γ Q∨gZ a.aE m n x3 o3 t3 Γ Q∨gZ a.aD m n x4 o3 t3 Γ Q
theorem EZ {m:Str} {n:Nat} {x1 x2 x3 x4:S3} {o3:TB3} {t3:cq} {Γ:G} {Q:RV→G→Prop}:(gZ a.a9 m n x1 o3 t3 Γ Q∨gZ a.aH m n x2 o3 t3 Γ Q∨gZ a.aE m n x3 o3 t3 Γ Q∨gZ a.aD m n x4 o3 t3 Γ Q)=or4 a m n x1 x2 x3 x4 o3 t3 Γ Q ⟨⟩ ⟨⟩:=rfl
theorem xK {m:Str} {n:Nat} {x1 x2 x3 x4:S3} {o3:TB3} {t3:cq} {Γ:G} {Q:RV→G→Prop} {s:Tag (m,n,x1,x2,x3,x4)} {t:Tag (o3,t3,Q)} (R:Rl) (h:gZ (R.cls a) m n (R.sel x1 x2 x3 x4) o3 t3 Γ Q):or4 a m n x1 x2 x3 x4 o3 t3 Γ Q s t:=by
 cases R
 ·exact .inl h
 ·exact .inr (.inl h)
 ·exact .inr (.inr (.inl h))
 ·exact .inr (.inr (.inr h))
theorem Gz (R:Rl):R.sel (hU (Str.ofString "sum")) (hU (Str.ofString "half")) (hU (Str.ofString "guess")) (hU (Str.ofString "lean"))=hU R.word:=by cases R <;> rfl
def adK (d:D) (k:D→Prop) (_:Tag k):Prop:=∀ d',Nm d d'→k d'
theorem G6 {e3:TE3} {Γ:G} {Q:RV→G→Prop}:ad3 e3 Γ Q=(e3 Γ fun r Γ1=>adK r.d (fun d=>Q (.fz d) Γ1) ⟨⟩):=rfl
def orA (j n:Nat) (f1 f2:Addr) (S1 S2:S3) (t3:cq) (Γ:G) (Q:RV→G→Prop) (_:Tag (S1,S2,t3,Q)):Prop:=ko j n f1 S1 t3 Γ Q∨ko j n f2 S2 t3 Γ Q
theorem EY {j n:Nat} {f1 f2:Addr} {S1 S2:S3} {t3:cq} {Γ:G} {Q:RV→G→Prop}:(ko j n f1 S1 t3 Γ Q∨ko j n f2 S2 t3 Γ Q)=orA j n f1 f2 S1 S2 t3 Γ Q ⟨⟩:=rfl
def orX (j n:Nat) (f1 f2:Addr) (S:S3X) (t3:cq) (W:XD→G→Prop) (Γ:G) (Q:RV→G→Prop) (_:Tag (S,t3,W,Q)):Prop:=jL j n f1 S t3 W Γ Q∨jL j n f2 S t3 W Γ Q
theorem EW {j n:Nat} {f1 f2:Addr} {S:S3X} {t3:cq} {W:XD→G→Prop} {Γ:G} {Q:RV→G→Prop}:(jL j n f1 S t3 W Γ Q∨jL j n f2 S t3 W Γ Q)=orX j n f1 f2 S t3 W Γ Q ⟨⟩:=rfl
theorem De {j n:Nat} {f f1 f2:Addr} {S:S3X} {t3:cq} {W:XD→G→Prop} {Γ:G} {Q:RV→G→Prop} {t:Tag (S,t3,W,Q)} (h:f=f1∨f=f2) (q:jL j n f S t3 W Γ Q):orX j n f1 f2 S t3 W Γ Q t:=by
 rcases h with rfl | rfl
 ·exact .inl q
 ·exact .inr q
local macro_rules | `(tactic| walk_at "m3")=>do `(tactic| try simp -dsimp only [$(←mkL "gH Bn Bp Bt Br Bm Bq Bl List.length_cons List.length_nil Nat.reduceAdd Nat.reduceSub Nat.zero_add List.replicate List.cons_append List.nil_append List.append_nil ↓BE ↓yn ↓BD ↓BF ↓yo ↓BJ ↓Gf ↓Gg ↓FV ↓FW EV ↓yi ↓wO ↓wN kA ↓BL ↓BM ↓u_ ↓uM ↓ym ↓yg ↓Fw ↓Fv ↓yp ↓BH ↓h_c q8 wQ ↓BB ↓BO ↓Fu ↓BG zg EX ↓BI ↓BA Gat Bo.at ats RV.d RV.sl zi i2 i2' wa ↓Bj ↓Bi uF uD uC uE Ao x9 mx3 Gi Fm Aj yA yC yx yy yB sl3 Cv ↓yl ↓yh Bf tI wH is3 knD dB dI dL dT ↓BN Ba beq_self_eq_true i28 um BU List.zip_cons_cons List.lookup_cons List.lookup_nil ↓ug rK uL ↓xZ uP ↓Bv uA dS Cw RV.fz.injEq ↓ue cj putD tgN tgT gives frees iL3 iR1 iZ3 iE3 lz3 Gh ↓u9 ↓u5 ↓se ↓yD List.isEmpty_nil List.isEmpty_cons ↓yq ↓uO yK yL ↓BK ↓xX eK qT iP eM cn List.map_cons List.map_nil Option.bind_some Option.bind_none List.nodup_nil List.nodup_cons List.getElem?_cons_zero List.getElem?_cons_succ List.getElem?_nil List.set_cons_zero List.set_cons_succ exists_eq_left' exists_eq_left exists_eq' exists_eq exists_and_left exists_and_right Option.some.injEq D.int.injEq D.lst.injEq D.str.injEq D.tup.injEq D.bl.injEq D.ins.injEq D.ty.injEq List.cons.injEq and_true true_and and_false false_and true_or false_or or_false or_true and_assoc List.not_mem_nil not_false_eq_true n8 pb zd yO yM BX BY nQ Bool.false_xor Bool.not_true Bool.not_false Bool.true_xor gP List.mapIdx_cons List.mapIdx_nil vh pE n5 sv uG rQ rP Nat.reduceLT decide_true sk sq sr ite_self newD Option.getD_some Option.getD_none B9 B8 B7 B6 yc yb ya if_pos if_true if_false List.all_cons List.all_nil Option.isNone_none Bool.and_true Bool.true_and decide_eq_true_eq not_true not_false_iff reduceCtorEq eq_self Bool.false_eq_true reduceIte Int.reduceEq Gd FZ F_ Ge Gb Ga yz Ej AR frL A8 iT3 Nat.reduceEqDiff Bu Fo Fj ↓fz3 D.exc.injEq D.adr.injEq w9 w5 wJ ↓uZ ↓uN ↓yk zh wZ Ei ↓yr ↓yj ↓Ft ↓BC Es iR2 Fp ext3 Ed Bb xQ ↓Ay ↓zM wu DJ ye dvv Ck E3.qz Fl isN ↓G6 ↓EZ Gz ↓EY ↓EW"),*])
theorem Dz {ys:List V} (h:ys.length=1):∃ y,ys=[y]:=by
 match ys,h with
 | [y],_=>exact⟨y,rfl⟩
theorem b5 (T:Txt w K mg a):aM P w K mg base CX0 1 a.bE a.cY ["self","words"] (Gy K):=by
 refine T.aL.F.ok gU (fun vs H Q E h=>by obtain⟨e,C,dx,y,rfl,_⟩:=h;rfl) fun cdv A outer s H vs Q E hr h=>⟨_,jC (jD (xp (by rfl) T.z_ValueError (cT (cL (i:=0) rfl (.inl rfl)) (cT (cL (i:=1) rfl (.inl rfl)) ja)))),?_⟩
 obtain⟨e,C,dx,y,rfl,mk,q,hQ⟩:=h
 exact⟨.ref e,rfl,y,rfl,e,C,dx,y,rfl,mk,q,hQ⟩
theorem je (T:Txt w K mg a):aM P w K mg base CX0 2 a.cN a.eF ["self","found"] (vq K a.aP ["found"]):=by
 refine T.eL.F.ok iW (fun vs H Q E h=>by obtain⟨e,ys,rfl,hl,_⟩:=h;simpa using hl) fun cdv A outer s H vs Q E hr h=>⟨_,i9 (jD (qj (E:=E0) (ds:=[]) (dvs:=[]) T.DM T.DN T.DO T.aL.F.kp (by rfl) T.dA (b5 T) hr T.aL.b .nil kC (cT (cL (i:=0) rfl (.inl rfl)) (cT qh ja))))
  (jC (qc (cL (i:=0) rfl (.inl rfl)) (cL (i:=1) rfl (.inl rfl)) (by rfl))),?_⟩
 obtain⟨e,ys,rfl,hl,q,hQ⟩:=h
 obtain⟨y,rfl⟩:=Dz hl
 exact⟨.ref e,rfl,e,a.aP,none,_,rfl,T.cu.xm.makes,q,y,rfl,.ref e,rfl,e,a.aP,rfl,T.cu.cl,T.cu.tk _ (.head _),.inl ⟨q,fun d hd ne=>hQ d hd ne⟩⟩
theorem jN (T:Txt w K mg a):aM P w K mg base CX0 2 a.cX a.eO ["self","found"] (vq K a.aU ["found"]):=by
 refine T.ft.F.ok jM (fun vs H Q E h=>by obtain⟨e,ys,rfl,hl,_⟩:=h;simpa using hl) fun cdv A outer s H vs Q E hr h=>⟨_,i9 (jD (qj (E:=E0) (ds:=[]) (dvs:=[]) T.DM T.DN T.DO T.aL.F.kp (by rfl) T.dA (b5 T) hr T.aL.b .nil kC (cT (cL (i:=0) rfl (.inl rfl)) (cT qh ja))))
  (jC (qc (cL (i:=0) rfl (.inl rfl)) (cL (i:=1) rfl (.inl rfl)) (by rfl))),?_⟩
 obtain⟨e,ys,rfl,hl,q,hQ⟩:=h
 obtain⟨y,rfl⟩:=Dz hl
 exact⟨.ref e,rfl,e,a.aU,none,_,rfl,T.cU.xm.makes,q,y,rfl,.ref e,rfl,e,a.aU,rfl,T.cU.cl,T.cU.tk _ (.head _),.inl ⟨q,fun d hd ne=>hQ d hd ne⟩⟩
theorem kd (T:Txt w K mg a):aM P w K mg base CX0 2 a.dF a.fO ["self","found"] (vq K a.bp ["found"]):=by
 refine T.gk.F.ok j9 (fun vs H Q E h=>by obtain⟨e,ys,rfl,hl,_⟩:=h;simpa using hl) fun cdv A outer s H vs Q E hr h=>⟨_,i9 (jD (qj (E:=E0) (ds:=[]) (dvs:=[]) T.DM T.DN T.DO T.aL.F.kp (by rfl) T.dA (b5 T) hr T.aL.b .nil kC (cT (cL (i:=0) rfl (.inl rfl)) (cT qh ja))))
  (jC (qc (cL (i:=0) rfl (.inl rfl)) (cL (i:=1) rfl (.inl rfl)) (by rfl))),?_⟩
 obtain⟨e,ys,rfl,hl,q,hQ⟩:=h
 obtain⟨y,rfl⟩:=Dz hl
 exact⟨.ref e,rfl,e,a.bp,none,_,rfl,T.dN.xm.makes,q,y,rfl,.ref e,rfl,e,a.bp,rfl,T.dN.cl,T.dN.tk _ (.head _),.inl ⟨q,fun d hd ne=>hQ d hd ne⟩⟩
def eqW (x:Str):D→Bool
 | .str z=>x == z
 | _=>false
theorem BW {x:Str} {d:D} (h:eqW x d=true):d=.str x:=by
 unfold eqW at h
 split at h
 ·rw[eq_of_beq h]
 ·cases h
theorem uV (R:Rl):eqW R.word (.str R.word)=true:=beq_self_eq_true _
theorem yJ {d:D} (h:Od a d) (x:Str):eqT [a.a9,a.aH,a.aE,a.aD] (.str x) d=some (eqW x d):=by
 cases h with
 | obj p c h=>
  cases c with
  | none=>rfl
  | some C=>
   show (if [a.a9,a.aH,a.aE,a.aD].contains C=true then some false else none)=some false
   rw[if_pos (List.contains_iff_mem.mpr (h C rfl))]
 | _=>rfl
theorem uB {R R':Rl} (h:R'.num=R.num):R'=R:=by cases R <;> cases R' <;> first | rfl | cases h
theorem xP (R:Rl):R.num < 4:=by cases R <;> decide
theorem uj {k:Nat} {d:D} (h:[Rl.sum.ob a,Rl.half.ob a,Rl.guess.ob a,Rl.lean.ob a][k]?=some d):∃ R:Rl,k=R.num∧d=R.ob a:=by
 match k,h with
 | 0,h=>cases h;exact⟨.sum,rfl,rfl⟩
 | 1,h=>cases h;exact⟨.half,rfl,rfl⟩
 | 2,h=>cases h;exact⟨.guess,rfl,rfl⟩
 | 3,h=>cases h;exact⟨.lean,rfl,rfl⟩
 | k + 4,h=>cases h
def CA (a:Ad):S3:=fun Γ Q=>∃ (R:Rl),Γ=[some (.fz (.str R.word))]∧Q (.fz (R.ob a)) Γ
theorem ip (T:Txt w K mg a):aM P w K mg base CX0 5 a.lO a.km ["word"] (sp3 K 1 (CA a)):=by
 refine ok3 T.aY.F hV (hbody:=fun cdv A outer s H E hr=>⟨_,_,(ai (lC PassesOwn.never rfl (eh (by rfl) (rH (by rfl) (kG T) hr.dn (by rfl) T.cv.m T.cv.F.kp T.cv.b)) (bq (i:=1) hV.nd rfl (Or.inl rfl))
   (ar (cf (bx (za (by rfl) (al4 T.uU T.o7 T.nP T.nO) hr) (P3.opd (P3.or (er (by rfl) (bv 1) T.u6 T.kI (kH T) hr.dn T.iS.b) (P3.or (er (by rfl) (bv 1) T.pj T.jh (jf T) hr.dn T.gF.b) (P3.or (er (by rfl) (bv 1) T.nZ T.iH (iF T) hr.dn T.fv.b) (er (by rfl) (bv 1) T.nY T.iG (iE T) hr.dn T.fu.b))))) (bv 0) (bV _)) (ar (aC (xE 1))) bB)))
   (ar m8)),fun Γa Q h hl=>?_⟩)
 obtain⟨R0,rfl,q⟩:=h
 have q1:∀ R:Rl,D.str R0.word=.str R.word→Q (.fz (R.ob a)) [some (.fz (.str R0.word))]:=fun R h=>by
  have:R=R0:=by cases R <;> cases R0 <;> first | rfl | exact absurd (D.str.inj h) (by decide +kernel)
  rw[this];exact q
 have ho:Od a (.str R0.word):=.str _
 have hz:=uV R0
 generalize D.str R0.word=d at q1 ho hz
 walk_at "m3"
 refine⟨rfl,?_⟩
 walk_at "m3"
 refine g4 (fun k Γ=>(∀ R:Rl,R.num < k→eqW R.word d=false)∧∃ s,Γ=[some (.fz d),fo s]) ⟨fun R h=>absurd h (Nat.not_lt_zero _),none,rfl⟩ ?_ ?_
 ·rintro k d' Γ hd ⟨hk,s,rfl⟩
  obtain⟨R,rfl,rfl⟩:=uj hd
  walk_at "m3"
  refine xK R ?_
  walk_at "m3"
  refine⟨_,rfl,?_⟩
  walk_at "m3"
  refine⟨_,yJ ho _,?_⟩
  walk_at "m3"
  refine g_ (fun e=>?_) (fun e=>?_)
  ·walk_at "m3"
   exact q1 R (BW e)
  ·walk_at "m3"
   exact⟨fun R' h=>by
    by_cases z:R'.num=R.num
    ·rw[uB z];exact e
    ·exact hk R' (by omega),some _,rfl⟩
 ·rintro Γ ⟨hk,_⟩
  exact absurd (hk R0 (xP R0)) (by rw[hz];decide)
def zC (a:Ad):S3X:=fun Γ Q W=>∃ (d:D),Γ=[some (.fz d)]∧Od a d∧(∀ R:Rl,d=.str R.word→Q (.fz (R.ob a)) Γ)∧((∀ R:Rl,eqW R.word d=false)→W ⟨a.bp,["found"],[d]⟩ Γ)
theorem qp (T:Txt w K mg a):aM P w K mg base (CX1 P w base) 5 a.lO a.km ["word"] (mX K 1 (zC a)):=by
 refine Ag T.aY.F hV (hbody:=fun cdv A outer s H E hr=>⟨_,_,(fun B F0 W xr=>(ky (P3S.x (P3S.calm (lC PassesOwn.never rfl (eh (by rfl) (rH (by rfl) (kG T) hr.dn (by rfl) T.cv.m T.cv.F.kp T.cv.b)) (bq (i:=1) hV.nd rfl (Or.inl rfl))
   (ar (cf (bx (za (by rfl) (al4 T.uU T.o7 T.nP T.nO) hr) (P3.opd (P3.or (er (by rfl) (bv 1) T.u6 T.kI (kH T) hr.dn T.iS.b) (P3.or (er (by rfl) (bv 1) T.pj T.jh (jf T) hr.dn T.gF.b) (P3.or (er (by rfl) (bv 1) T.nZ T.iH (iF T) hr.dn T.fv.b) (er (by rfl) (bv 1) T.nY T.iG (iE T) hr.dn T.fu.b))))) (bv 0) (bV _)) (ar (aC (xE 1))) bB)))))
   (j7 (mP (by rfl) xr T.dN.xm (kd T) hr.dn (by rfl) T.jH T.gk.b p_ (by decide) (ab (p3v 0) aj))))),fun Γa Q W3 h hl=>?_⟩)
 obtain⟨d,rfl,ho,q1,q2⟩:=h
 walk_at "m3"
 refine⟨rfl,?_⟩
 walk_at "m3"
 refine g4 (fun k Γ=>(∀ R:Rl,R.num < k→eqW R.word d=false)∧∃ s,Γ=[some (.fz d),fo s]) ⟨fun R h=>absurd h (Nat.not_lt_zero _),none,rfl⟩ ?_ ?_
 ·rintro k d' Γ hd ⟨hk,s,rfl⟩
  obtain⟨R,rfl,rfl⟩:=uj hd
  walk_at "m3"
  refine xK R ?_
  walk_at "m3"
  refine⟨_,rfl,?_⟩
  walk_at "m3"
  refine⟨_,yJ ho _,?_⟩
  walk_at "m3"
  refine g_ (fun e=>?_) (fun e=>?_)
  ·walk_at "m3"
   exact q1 R (BW e)
  ·walk_at "m3"
   exact⟨fun R' h=>by
    by_cases z:R'.num=R.num
    ·rw[uB z];exact e
    ·exact hk R' (by omega),some _,rfl⟩
 ·rintro Γ ⟨hk,s,rfl⟩
  walk_at "m3"
  exact q2 fun R=>hk R (xP R)
def FH:S3:=fun Γ Q=>∃ (R:Rl) (m p:Int),Γ=[some (.fz (.str R.word)),some (.fz (.int m)),some (.fz (.int p))]∧2≤m∧m≤64∧0≤p∧p < m∧Q (.fz .non) Γ
theorem Cd {i lo hi:Int} (h1:lo≤i) (h2:i≤hi):whD (.int i) lo hi=true:=by
 show (decide (lo≤i) && decide (i≤hi))=true
 rw[decide_eq_true h1,decide_eq_true h2];rfl
theorem fM (T:Txt w K mg a):aM P w K mg base CX0 6 a.dE a.cW ["word","many","place"] (sp3 K 3 FH):=by
 refine ok3 T.az.F fA (hbody:=fun cdv A outer s H E hr=>⟨_,_,(ai (jB (ao (by rfl) (ip T) hr.dn (by rfl) T.aY.m T.aY.F.kp T.aY.b (aa (P3.opd (p3v 0)) ae)))
   (ai (cf (cE (bR (ao (by rfl) (gr T) hr.dn (by rfl) T.br.m T.br.F.kp T.br.b (aa (P3.opd (p3v 1)) (aa (P3.opd af) (aa (P3.opd (uz (i:=64) (by rfl) T.ma)) ae)))))) (ar m8) bB)
   (ar (cf (cE (bR (ao (by rfl) (gr T) hr.dn (by rfl) T.br.m T.br.F.kp T.br.b (aa (P3.opd (p3v 2)) (aa (P3.opd af) (aa (P3.opd (gO (bv 1) (P3.opd af))) ae)))))) (ar m8) bB)))),fun Γa Q h hl=>?_⟩)
 obtain⟨R,m,p,rfl,h1,h2,h3,h4,q⟩:=h
 walk_at "m3"
 refine⟨R,rfl,?_⟩
 walk_at "m3"
 refine⟨_,_,_,rfl,.int _,?_⟩
 rw[Cd h1 h2]
 walk_at "m3"
 refine⟨_,_,_,rfl,.int _,?_⟩
 rw[Cd h3 (by omega)]
 walk_at "m3"
 exact q
inductive Due (a:Ad):D→D→D→XD→Prop where
 | rule {d1:D} (d2 d3:D) (h:∀ R:Rl,eqW R.word d1=false):Due a d1 d2 d3 ⟨a.bp,["found"],[d1]⟩
 | num (R:Rl) {d2:D} (d3:D) (h:whD d2 2 64=false):Due a (.str R.word) d2 d3 ⟨a.aP,["found"],[d2]⟩
 | plc (R:Rl) {m:Int} {d3:D} (h1:2≤m) (h2:m≤64) (h:whD d3 0 (m - 1)=false):Due a (.str R.word) (.int m) d3 ⟨a.aU,["found"],[d3]⟩
def yP (a:Ad):S3X:=fun Γ Q W=>∃ (d1 d2 d3:D) (x:XD),Γ=[some (.fz d1),some (.fz d2),some (.fz d3)]∧Od a d1∧Od a d2∧Od a d3∧Due a d1 d2 d3 x∧W x Γ
theorem ez (T:Txt w K mg a):aM P w K mg base (CX1 P w base) 6 a.dE a.cW ["word","many","place"] (mX K 3 (yP a)):=by
 refine Ag T.az.F fA (hbody:=fun cdv A outer s H E hr=>⟨_,_,(fun B F0 W xr=>(ky (mF (pN (by rfl) xr (qp T) (dH.of xD) hr.dn (by rfl) T.aY.m T.aY.F.kp T.aY.b (aa (P3.opd (p3v 0)) ae)))
   (ky (AQ (cE (bR (ao (by rfl) (gr T) hr.dn (by rfl) T.br.m T.br.F.kp T.br.b (aa (P3.opd (p3v 1)) (aa (P3.opd af) (aa (P3.opd (uz (i:=64) (by rfl) T.ma)) ae)))))) (j7 (mP (by rfl) xr T.cu.xm (je T) hr.dn (by rfl) T.gx T.eL.b p_ (by decide) (ab (p3v 1) aj))) (bB).x)
   (j7 (AQ (cE (bR (ao (by rfl) (gr T) hr.dn (by rfl) T.br.m T.br.F.kp T.br.b (aa (P3.opd (p3v 2)) (aa (P3.opd af) (aa (P3.opd (gO (bv 1) (P3.opd af))) ae)))))) (j7 (mP (by rfl) xr T.cU.xm (jN T) hr.dn (by rfl) T.ir T.ft.b p_ (by decide) (ab (p3v 2) aj))) (bB).x))))),fun Γa Q W3 h hl=>?_⟩)
 obtain⟨d1,d2,d3,x,rfl,o1,o2,o3,hd,q⟩:=h
 walk_at "m3"
 cases hd with
 | rule _ _ h=>
  refine⟨d1,rfl,o1,fun R e=>?_,fun _=>q⟩
  subst e
  exact absurd (h R) (by rw[uV];decide)
 | num R _ h=>
  refine⟨_,rfl,o1,fun R' e=>?_,fun z=>absurd (z R) (by rw[uV];decide)⟩
  walk_at "m3"
  refine⟨_,_,_,rfl,o2,?_⟩
  rw[h]
  walk_at "m3"
  exact q
 | plc R h1 h2 h=>
  refine⟨_,rfl,o1,fun R' e=>?_,fun z=>absurd (z R) (by rw[uV];decide)⟩
  walk_at "m3"
  refine⟨_,_,_,rfl,.int _,?_⟩
  rw[Cd h1 h2]
  walk_at "m3"
  refine⟨_,_,_,rfl,o3,?_⟩
  rw[h]
  walk_at "m3"
  exact q
def mW (f:Rl→Int→Int→List Int):S3:=fun Γ Q=>∃ (R:Rl) (m p:Int),Γ=[some (.fz (.str R.word)),some (.fz (.int m)),some (.fz (.int p))]∧2≤m∧m≤64∧0≤p∧p < m∧Q (.fr (il (f R m p))) Γ
theorem oR (T:Txt w K mg a):aM P w K mg base CX0 7 a.eG a.lN ["word","many","place"] (sp3 K 3 (mW Rl.sp)):=by
 refine ok3 T.cO.F oG (hbody:=fun cdv A outer s H E hr=>⟨_,_,(ai (jB (ao (by rfl) (fM T) hr.dn (by rfl) T.az.m T.az.F.kp T.az.b (aa (P3.opd (p3v 0)) (aa (P3.opd (p3v 1)) (aa (P3.opd (p3v 2)) ae)))))
   (ar (aC (ao (by rfl) (iD T) hr.dn (by rfl) T.bI.m T.bI.F.kp T.bI.b (aa (P3.opd (p3v 0)) (aa (P3.opd (p3v 1)) (aa (P3.opd (p3v 2)) ae))))))),fun Γa Q h hl=>?_⟩)
 obtain⟨R,m,p,rfl,h1,h2,h3,h4,q⟩:=h
 walk_at "m3"
 refine⟨R,m,p,rfl,h1,h2,h3,h4,?_⟩
 walk_at "m3"
 exact⟨R,m,p,rfl,q⟩
theorem rJ (T:Txt w K mg a):aM P w K mg base (CX1 P w base) 7 a.eG a.lN ["word","many","place"] (mX K 3 (yP a)):=by
 refine Ag T.cO.F oG (hbody:=fun cdv A outer s H E hr=>⟨_,_,(fun B F0 W xr=>(ky (mF (pN (by rfl) xr (ez T) (dH.of xD) hr.dn (by rfl) T.az.m T.az.F.kp T.az.b (aa (P3.opd (p3v 0)) (aa (P3.opd (p3v 1)) (aa (P3.opd (p3v 2)) ae)))))
   (j7 (P3S.x (aC (ao (by rfl) (iD T) hr.dn (by rfl) T.bI.m T.bI.F.kp T.bI.b (aa (P3.opd (p3v 0)) (aa (P3.opd (p3v 1)) (aa (P3.opd (p3v 2)) ae))))))))),fun Γa Q W3 h hl=>?_⟩)
 obtain⟨d1,d2,d3,x,rfl,o1,o2,o3,hd,q⟩:=h
 walk_at "m3"
 exact⟨d1,d2,d3,x,rfl,o1,o2,o3,hd,q⟩
theorem jb (T:Txt w K mg a):aM P w K mg base CX0 7 a.bH a.fN ["word","many","place"] (sp3 K 3 (mW Rl.bk)):=by
 refine ok3 T.ba.F iV (hbody:=fun cdv A outer s H E hr=>⟨_,_,(ai (jB (ao (by rfl) (fM T) hr.dn (by rfl) T.az.m T.az.F.kp T.az.b (aa (P3.opd (p3v 0)) (aa (P3.opd (p3v 1)) (aa (P3.opd (p3v 2)) ae)))))
   (ar (aC (ao (by rfl) (eu T) hr.dn (by rfl) T.aR.m T.aR.F.kp T.aR.b (aa (P3.opd (p3v 0)) (aa (P3.opd (p3v 1)) (aa (P3.opd (p3v 2)) ae))))))),fun Γa Q h hl=>?_⟩)
 obtain⟨R,m,p,rfl,h1,h2,h3,h4,q⟩:=h
 walk_at "m3"
 refine⟨R,m,p,rfl,h1,h2,h3,h4,?_⟩
 walk_at "m3"
 exact⟨R,m,p,rfl,q⟩
theorem lJ (T:Txt w K mg a):aM P w K mg base (CX1 P w base) 7 a.bH a.fN ["word","many","place"] (mX K 3 (yP a)):=by
 refine Ag T.ba.F iV (hbody:=fun cdv A outer s H E hr=>⟨_,_,(fun B F0 W xr=>(ky (mF (pN (by rfl) xr (ez T) (dH.of xD) hr.dn (by rfl) T.az.m T.az.F.kp T.az.b (aa (P3.opd (p3v 0)) (aa (P3.opd (p3v 1)) (aa (P3.opd (p3v 2)) ae)))))
   (j7 (P3S.x (aC (ao (by rfl) (eu T) hr.dn (by rfl) T.aR.m T.aR.F.kp T.aR.b (aa (P3.opd (p3v 0)) (aa (P3.opd (p3v 1)) (aa (P3.opd (p3v 2)) ae))))))))),fun Γa Q W3 h hl=>?_⟩)
 obtain⟨d1,d2,d3,x,rfl,o1,o2,o3,hd,q⟩:=h
 walk_at "m3"
 exact⟨d1,d2,d3,x,rfl,o1,o2,o3,hd,q⟩
theorem Dx {m n:Nat} {xs:List Int} (h:rise m (-1) xs=true) (e:msk xs=n):(((List.range m).filter fun k=>n / 2 ^ k % 2 == 1).map fun k:Nat=>D.int (k:Int))=xs.map D.int:=by
 subst e
 conv=>rhs;rw[← nG h]
 rw[List.map_map];rfl
theorem w6 {m:Nat} {xs:List Int} (h:rise m (-1) xs=true):xs.length≤m:=by
 rw[← nG h,List.length_map]
 exact Nat.le_trans (List.length_filter_le _ _) (by simp)
theorem y9 {j n:Nat} {f f1 f2:Addr} {F F1 F2:Rl→Int→Int→List Int} {t3:cq} {Γ:G} {Q:RV→G→Prop} {t:Tag (mW F1,mW F2,t3,Q)} (h:f=f1∧F=F1∨f=f2∧F=F2) (q:ko j n f (mW F) t3 Γ Q):orA j n f1 f2 (mW F1) (mW F2) t3 Γ Q t:=by
 rcases h with ⟨rfl,rfl⟩ | ⟨rfl,rfl⟩
 ·exact .inl q
 ·exact .inr q
theorem FC {a b c d e:D} {xs ys:List Int}:B_ [some (.fz a),some (.fz b),some (.fz c),some (.fz d),some (.fz e),some (.ow (.lst (xs.map D.int))),some (.ow (.lst (ys.map D.int)))]:=fun j u hu=>by
 rcases hu with hu | hu
 ·match j,hu with
  | 5,hu=>cases hu;exact⟨_,rfl⟩
  | 6,hu=>cases hu;exact⟨_,rfl⟩
 ·match j,hu with
  | 5,hu=>cases hu
  | 6,hu=>cases hu
def zE (a:Ad):S3:=fun Γ Q=>∃ (f:Addr) (F:Rl→Int→Int→List Int) (R:Rl) (m:Nat) (M:List Nat),Γ=[some (.fz (.adr f)),some (.fz (.str R.word)),some (.fz (.int (m:Int))),some (.fz (nl M))]∧(f=a.eG∧F=Rl.sp∨f=a.bH∧F=Rl.bk)∧2≤m∧m≤64∧M.length=m∧(∀ p:Nat,p < m→rise m (-1) (F R m p)=true∧msk (F R m p)=gd M p)∧Q (.fz (.bl true)) Γ
theorem jT (T:Txt w K mg a):aM P w K mg base CX0 8 a.kW a.jY ["_law_door","_law_word","_law_many","_law_dues"] (sp3 K 4 (zE a)):=by
 refine ok3 T.b7.F dY (hbody:=fun cdv A outer s H E hr=>⟨_,_,(ai (lC PassesOwn.never rfl (bP (by rfl) T.z_range (ab (p3v 2) aj)) (bq (i:=4) dY.nd rfl (Or.inl rfl))
   (ai (aB (i:=5) dY.nd rfl (Or.inl rfl) (ao (by rfl) (nz T) hr.dn (by rfl) T.dX.m T.dX.F.kp T.dX.b (aa (P3.opd (aX (by rfl) (bv 3) (bv 4) (fun _ _=>rfl))) (aa (P3.opd (p3v 2)) ae))))
   (ai (aB (i:=6) dY.nd rfl (Or.inl rfl) (P3.or (cP (j:=0) T.cO.F (oR T) hr.dn T.cO.b (by rfl) (by first | exact Or.inl rfl | exact Or.inr (Or.inl rfl) | exact Or.inr (Or.inr rfl)) (aa (P3.opd (p3v 1)) (aa (P3.opd (p3v 2)) (aa (P3.opd (p3v 4)) ae)))) (cP (j:=0) T.ba.F (jb T) hr.dn T.ba.b (by rfl) (by first | exact Or.inl rfl | exact Or.inr (Or.inl rfl) | exact Or.inr (Or.inr rfl)) (aa (P3.opd (p3v 1)) (aa (P3.opd (p3v 2)) (aa (P3.opd (p3v 4)) ae))))))
   (ai (cf (P3W.pt (ng (cE (bR (aO (FO T.ty) (by rfl) T.z_isinstance (by decide +kernel) (aa (bv 6) (aa (P3.opd (lR (n:="list") (by rfl) T.z_list (by decide +kernel))) ae))))) (ng (bx (qN (by rfl) hr) (bv 6) (bv 5) (bV _)) (qk (C6 6 (bx (qN (by rfl) hr) (P3.opd (nk rfl (eh (by rfl) (p3v 6)) g9 (fun _ _ _ _ _=>(bq (i:=0) g9.nd rfl (Or.inl rfl))) (fun _ _ _ _ _=>(cE (bR (ao (by rfl) (om T) hr.dn (by rfl) T.eS.m T.eS.F.kp T.eS.b (aa (P3.opd (p3v 0)) ae))))) (fun _ _ _ _ _=>(p3v 0)))) (P3.opd (a8 aj)) (bV _))))))) (ar (aC gX)) bB)
   (ai (jB (vL 6 (by rfl) (bv 6) af))
   (ar (cf (bx (qN (by rfl) hr) (P3.opd (P3.or (cP (j:=0) T.cO.F (oR T) hr.dn T.cO.b (by rfl) (by first | exact Or.inl rfl | exact Or.inr (Or.inl rfl) | exact Or.inr (Or.inr rfl)) (aa (P3.opd (p3v 1)) (aa (P3.opd (p3v 2)) (aa (P3.opd (p3v 4)) ae)))) (cP (j:=0) T.ba.F (jb T) hr.dn T.ba.b (by rfl) (by first | exact Or.inl rfl | exact Or.inr (Or.inl rfl) | exact Or.inr (Or.inr rfl)) (aa (P3.opd (p3v 1)) (aa (P3.opd (p3v 2)) (aa (P3.opd (p3v 4)) ae)))))) (bv 5) (bV _)) (ar (aC gX)) bB)))))))
   (ar (aC gX))),fun Γa Q h hl=>?_⟩)
 obtain⟨f,F,R,m,M,rfl,hf,h1,h2,hM,hF,q⟩:=h
 walk_at "m3"
 refine⟨by omega,by omega,g4 (fun k Γ=>k≤m∧∃ s5 s6 s7,Γ=[some (.fz (.adr f)),some (.fz (.str R.word)),some (.fz (.int (m:Int))),some (.fz (nl M)),fo s5,fw s6,fw s7]) ⟨Nat.zero_le _,none,none,none,rfl⟩ ?_ ?_⟩
 ·rintro k d Γ hd ⟨hk,s5,s6,s7,rfl⟩
  obtain⟨lt,rfl⟩:=cS hd
  rw[Int.toNat_natCast] at lt
  obtain⟨r1,r2⟩:=hF k lt
  have rl:=w6 r1
  walk_at "m3"
  refine bL.mpr ⟨_,bN (by omega),?_⟩
  walk_at "m3"
  refine⟨_,m,rfl,h2,?_⟩
  rw[Dx r1 r2]
  walk_at "m3"
  refine y9 hf ⟨rfl,?_⟩
  walk_at "m3"
  refine⟨R,m,k,rfl,by omega,by omega,by omega,by omega,?_⟩
  walk_at "m3"
  refine⟨_,rfl,FC,?_⟩
  walk_at "m3"
  refine g6 (fun j ys Γc=>ys=[]∧∃ s,Γc=[fo s]) ⟨rfl,none,rfl⟩ ?_ ?_
  ·rintro j d ys Γc hd ⟨rfl,s,rfl⟩
   obtain⟨n,hn',rfl⟩:=iu hd
   walk_at "m3"
   refine⟨n,rfl,?_⟩
   walk_at "m3"
   exact⟨rfl,some _,rfl⟩
  ·rintro ys Γc ⟨rfl,s,rfl⟩
   refine⟨small (by decide),?_⟩
   walk_at "m3"
   refine⟨Nat.zero_le _,small (by rw[List.length_map];omega),y9 hf ⟨rfl,?_⟩⟩
   walk_at "m3"
   refine⟨R,m,k,rfl,by omega,by omega,by omega,by omega,?_⟩
   walk_at "m3"
   exact⟨lt,some _,some _,some _,rfl⟩
 ·rintro Γ ⟨hk,s5,s6,s7,rfl⟩
  walk_at "m3"
  exact q
section
variable {U C:Addr}
theorem Cf (x:mB K U C):C=U∨PySem.W.mroIn K C (.ref U)=some true:=by
 obtain⟨cd,rest,h1,h2,h3,h4,_⟩:=x.mro
 rcases h4 with rfl | h4
 ·exact .inl rfl
 ·refine .inr ?_
  unfold PySem.W.mroIn
  rw[h1,Option.bind_some,if_neg (by rw[h2];simp),h2]
  congr 1
  exact List.contains_iff_mem.mpr (List.mem_cons_of_mem _ h4)
end
structure Thr (K:PySem.W.Frag) (a:Ad) (C:Addr) (i:Nat):Prop where
 is:XIs K C
 at':qU K C∧iz K C "found"
 mr:PySem.W.mroIn K C (.ref a.ak)=some true
 ve:PySem.W.kitOne K (.ref C) (.type "ValueError")=some true
 n:PySem.W.kitOne K (.ref C) (.ref a.aP)=some (decide (0=i))
 p:PySem.W.kitOne K (.ref C) (.ref a.aU)=some (decide (1=i))
 r:PySem.W.kitOne K (.ref C) (.ref a.bp)=some (decide (2=i))
theorem D5 {c u v:Value} (h1:PySem.W.kitOne K c u=some false) (h2:PySem.W.kitOne K c v=some false):PySem.W.kitAny K c [u,v]=some false:=by
 simp only[PySem.W.kitAny,h1,h2]
theorem xY {x y:Addr}:List.mapM dvv [D.adr x,D.adr y]=some [.ref x,.ref y]:=rfl
theorem sN (T:Txt w K mg a) {C:Addr} {i:Nat} (h:[a.aP,a.aU,a.bp][i]?=some C):Thr K a C i:=by
 have nd:=xS T.xnd
 have hu:∀ C∈[a.aP,a.aU,a.bp],mB K a.ak C:=fun C hC=>by
  simp only[List.mem_cons,List.not_mem_nil,or_false] at hC
  rcases hC with rfl | rfl | rfl
  ·exact T.cu.un
  ·exact T.cU.un
  ·exact T.dN.un
 have hm:=List.mem_of_getElem? h
 have is:XIs K C∧iz K C "found":=by
  simp only[List.mem_cons,List.not_mem_nil,or_false] at hm
  rcases hm with rfl | rfl | rfl
  ·exact⟨T.cu.is,T.cu.na _ (.head _)⟩
  ·exact⟨T.cU.is,T.cU.na _ (.head _)⟩
  ·exact⟨T.dN.is,T.dN.na _ (.head _)⟩
 refine⟨is.1,⟨⟨is.1.ga,is.1.gh,is.1.hd,is.1.ex⟩,is.2⟩,(Cf (hu C hm)).resolve_left fun z=>(List.nodup_cons.mp nd).1 (z ▸ hm),(hu C hm).ve,qu nd hu (i:=0) rfl h,qu nd hu (i:=1) rfl h,qu nd hu (i:=2) rfl h⟩
inductive Tld (a:Ad):XD→D→Prop where
 | rule (d:D):Tld a ⟨a.bp,["found"],[d]⟩ (.tup [.str "rule",d])
 | num (d:D):Tld a ⟨a.aP,["found"],[d]⟩ (.tup [.str "number",d])
 | plc (d:D):Tld a ⟨a.aU,["found"],[d]⟩ (.tup [.str "place",d])
def Cm (a:Ad):S3:=fun Γ Q=>∃ (f:Addr) (d1 d2 d3:D) (x:XD) (d:D),Γ=[some (.fz (.adr f)),some (.fz d1),some (.fz d2),some (.fz d3)]∧(f=a.eG∨f=a.bH)∧Od a d1∧Od a d2∧Od a d3∧Due a d1 d2 d3 x∧Tld a x d∧Q (.fz d) Γ
theorem qr (T:Txt w K mg a):aM P w K mg base CX0 8 a.lZ a.kO ["_law_door","_law_word","_law_many","_law_place"] (sp3 K 4 (Cm a)):=by
 refine ok3 T.gi.F b9 (hbody:=fun cdv A outer s H E hr=>⟨_,_,(ai (aB (i:=4) b9.nd rfl (Or.inl rfl) qo)
   (ai (P3S.ofX fun B F0=>(Cc (i:=5) (by rfl) T.mO rfl rfl (by rfl) T.dA b9.nd rfl rfl (fun pins F1 E W xr=>(j7 (mF (P3X.or (qX (j:=0) (by rfl) xr T.cO.F (rJ T) A7 hr.dn T.cO.b (by rfl) (by first | exact Or.inl rfl | exact Or.inr (Or.inl rfl) | exact Or.inr (Or.inr rfl)) (aa (P3.opd (p3v 1)) (aa (P3.opd (p3v 2)) (aa (P3.opd (p3v 3)) ae)))) (qX (j:=0) (by rfl) xr T.ba.F (lJ T) A7 hr.dn T.ba.b (by rfl) (by first | exact Or.inl rfl | exact Or.inr (Or.inl rfl) | exact Or.inr (Or.inr rfl)) (aa (P3.opd (p3v 1)) (aa (P3.opd (p3v 2)) (aa (P3.opd (p3v 3)) ae)))))))) (fun pins e=>((ai (aB (i:=4) b9.nd rfl (Or.inl rfl) (cy (ab bg (ab (aO (vc (P:=fun C=>XIs K C) (by rfl) (fun _ h=>h)) (by rfl) T.z_isinstance (by decide +kernel) (aa (bv 5) (aa (P3.opd (lR (n:="ValueError") (by rfl) T.z_ValueError (by decide +kernel))) ae))) aj))))
   (ar (cf (P3W.pt (ql (bR (aO (vc (P:=fun C=>XIs K C) (by rfl) (fun _ h=>h)) (by rfl) T.z_isinstance (by decide +kernel) (aa (bv 5) (aa (P3.opd (cF (by rfl) T.jH)) ae)))) (nj (cE (bR (aO (tU (P:=fun C=>XIs K C) (by rfl) (fun _ h=>h)) (by rfl) T.z_isinstance (by decide +kernel) (aa (bv 5) (aa (P3.opd (cy (ab (cF (by rfl) T.gx) (ab (cF (by rfl) T.ir) aj)))) ae)))))))) (ar (aB (i:=4) b9.nd rfl (Or.inl rfl) (cy (ab bg (ab (qm (P:=fun C=>qU K C∧iz K C "found") (f:="found") (by rfl) (bv 5) (fun _ h=>h) (by rfl)) aj))))) (ar (cf (P3W.pt (ql (bR (aO (vc (P:=fun C=>XIs K C) (by rfl) (fun _ h=>h)) (by rfl) T.z_isinstance (by decide +kernel) (aa (bv 5) (aa (P3.opd (cF (by rfl) T.gx)) ae)))) (nj (cE (bR (aO (tU (P:=fun C=>XIs K C) (by rfl) (fun _ h=>h)) (by rfl) T.z_isinstance (by decide +kernel) (aa (bv 5) (aa (P3.opd (cy (ab (cF (by rfl) T.jH) (ab (cF (by rfl) T.ir) aj)))) ae)))))))) (ar (aB (i:=4) b9.nd rfl (Or.inl rfl) (cy (ab bg (ab (qm (P:=fun C=>qU K C∧iz K C "found") (f:="found") (by rfl) (bv 5) (fun _ h=>h) (by rfl)) aj))))) (ar (cf (P3W.pt (ql (bR (aO (vc (P:=fun C=>XIs K C) (by rfl) (fun _ h=>h)) (by rfl) T.z_isinstance (by decide +kernel) (aa (bv 5) (aa (P3.opd (cF (by rfl) T.ir)) ae)))) (nj (cE (bR (aO (tU (P:=fun C=>XIs K C) (by rfl) (fun _ h=>h)) (by rfl) T.z_isinstance (by decide +kernel) (aa (bv 5) (aa (P3.opd (cy (ab (cF (by rfl) T.jH) (ab (cF (by rfl) T.gx) aj)))) ae)))))))) (ar (aB (i:=4) b9.nd rfl (Or.inl rfl) (cy (ab bg (ab (qm (P:=fun C=>qU K C∧iz K C "found") (f:="found") (by rfl) (bv 5) (fun _ h=>h) (by rfl)) aj))))) bB)))))))).x)))
   (ar (aC (xE 4))))),fun Γa Q h hl=>?_⟩)
 obtain⟨f,d1,d2,d3,x,d,rfl,hf,o1,o2,o3,hd,ht,q⟩:=h
 walk_at "m3"
 refine De hf ⟨rfl,?_⟩
 walk_at "m3"
 refine⟨d1,d2,d3,x,rfl,o1,o2,o3,hd,?_⟩
 cases ht with
 | rule d=>
  have t:=sN T (C:=a.bp) (i:=2) rfl
  refine⟨t.mr,?_⟩
  walk_at "m3"
  refine⟨t.is,true,t.ve,sl2 (by decide),t.is,true,t.r,?_⟩
  walk_at "m3"
  refine⟨sl2 (by decide),t.is,_,xY,false,D5 t.n t.p,?_⟩
  walk_at "m3"
  exact⟨t.at'.1,t.at'.2,sl2 (by decide),q⟩
 | num d=>
  have t:=sN T (C:=a.aP) (i:=0) rfl
  refine⟨t.mr,?_⟩
  walk_at "m3"
  refine⟨t.is,true,t.ve,sl2 (by decide),t.is,false,t.r,?_⟩
  walk_at "m3"
  refine⟨t.is,true,t.n,?_⟩
  walk_at "m3"
  refine⟨sl2 (by decide),t.is,_,xY,false,D5 t.r t.p,?_⟩
  walk_at "m3"
  exact⟨t.at'.1,t.at'.2,sl2 (by decide),q⟩
 | plc d=>
  have t:=sN T (C:=a.aU) (i:=1) rfl
  refine⟨t.mr,?_⟩
  walk_at "m3"
  refine⟨t.is,true,t.ve,sl2 (by decide),t.is,false,t.r,?_⟩
  walk_at "m3"
  refine⟨t.is,false,t.n,?_⟩
  walk_at "m3"
  refine⟨t.is,true,t.p,?_⟩
  walk_at "m3"
  refine⟨sl2 (by decide),t.is,_,xY,false,D5 t.r t.n,?_⟩
  walk_at "m3"
  exact⟨t.at'.1,t.at'.2,sl2 (by decide),q⟩
theorem E8 (R:Rl) (p:Addr):Od a (.obj p (some (R.cls a))):=.obj _ _ fun C h=>by
 cases h
 cases R <;> simp [Rl.cls]
theorem yI (i:Int):eqX (.int i) (.int i)=some true:=by
 show eqN 18 (.int i) (.int i)=some true
 rw[yM,beq_self_eq_true]
theorem BV {p:Addr} {c c':Option Addr}:eqX (.obj p c) (.obj p c')=some true:=by
 unfold eqX
 exact if_pos rfl
structure Thg (a:Ad) (d:D):Prop where
 od:Od a d
 eq:eqX d d=some true
theorem lr {R:Rl} {d:D} (h:Nm (R.ob a) d):Thg a d∧(∀ x,eqW x d=false)∧∀ lo hi,whD d lo hi=false:=by
 cases h with
 | ins C p=>exact⟨⟨E8 R p,BV⟩,fun _=>rfl,fun _ _=>rfl⟩
 | same h1 h2=>exact absurd rfl (h2 _)
abbrev wz (a:Ad) (R:Rl):List D:=[.non,.str "Sum",.str "sum ",.str "guesses",.str "",.str "lea",.int 3,.lst [.str "sum"],.bl true,.tup [.str "half"]]++[Rl.sum.ob a,R.ob a]
theorem wA {R:Rl} {v d:D} (hv:v∈wz a R) (h:Nm v d):Thg a d∧∀ R':Rl,eqW R'.word d=false:=by
 simp only[wz,List.cons_append,List.nil_append,List.mem_cons,List.not_mem_nil,or_false] at hv
 rcases hv with rfl | rfl | rfl | rfl | rfl | rfl | rfl | rfl | rfl | rfl | rfl | rfl
 case inr.inr.inr.inr.inr.inr.inr.inr.inr.inr.inl=>exact⟨(lr (R:=.sum) h).1,fun R'=>(lr (R:=.sum) h).2.1 _⟩
 case inr.inr.inr.inr.inr.inr.inr.inr.inr.inr.inr=>exact⟨(lr (R:=R) h).1,fun R'=>(lr (R:=R) h).2.1 _⟩
 all_goals
  cases h
  exact⟨⟨by constructor,by decide +kernel⟩,fun R'=>by cases R' <;> decide +kernel⟩
abbrev xN (a:Ad) (R:Rl):List D:=[.non,.bl true,.bl false,.str "2",.int (-1),.lst [.int 2],.tup [.int 0],.dct,.int 100000000000000000000000000000,R.ob a]
theorem xO {R:Rl} {v d:D} {lo hi:Int} (h0:0≤lo) (h1:hi≤64) (hv:v∈xN a R) (h:Nm v d):Thg a d∧whD d lo hi=false:=by
 simp only[xN,List.mem_cons,List.not_mem_nil,or_false] at hv
 rcases hv with rfl | rfl | rfl | rfl | rfl | rfl | rfl | rfl | rfl | rfl
 case inr.inr.inr.inr.inr.inr.inr.inr.inr=>exact⟨(lr (R:=R) h).1,(lr (R:=R) h).2.2 _ _⟩
 case inr.inr.inr.inr.inr.inr.inr.inl=>
  cases h with
  | dct p=>exact⟨⟨.obj _ _ (fun C h=>by cases h),BV⟩,rfl⟩
  | same h1 h2=>exact absurd rfl h1
 case inr.inr.inr.inr.inl=>
  cases h
  exact⟨⟨by constructor,yI _⟩,by show (decide (lo≤-1) && decide (-1≤hi))=false;rw[decide_eq_false (by omega)];rfl⟩
 case inr.inr.inr.inr.inr.inr.inr.inr.inl=>
  cases h
  exact⟨⟨by constructor,yI _⟩,by show (decide (lo≤100000000000000000000000000000) && decide (100000000000000000000000000000≤hi))=false;rw[decide_eq_false (p:=100000000000000000000000000000≤hi) (by omega),Bool.and_false]⟩
 all_goals
  cases h
  exact⟨⟨by constructor,by decide +kernel⟩,rfl⟩
theorem yf {v d:D} {i lo hi:Int} (hv:v=.int i) (h:Nm v d) (hi':¬ (lo≤i∧i≤hi)):Thg a d∧whD d lo hi=false:=by
 subst hv
 cases h
 refine⟨⟨by constructor,yI _⟩,?_⟩
 show (decide (lo≤i) && decide (i≤hi))=false
 rw[← Bool.decide_and]
 exact decide_eq_false hi'
theorem zy {R:Rl} {v d:D} {m:Int} (hm:2≤m) (hv:v∈xN a R++[.int 0,.int 1,.int 65,.int (64 + m)]) (h:Nm v d):Thg a d∧whD d 2 64=false:=by
 rcases List.mem_append.mp hv with hv | hv
 ·exact xO (by decide) (by decide) hv h
 ·simp only[List.mem_cons,List.not_mem_nil,or_false] at hv
  rcases hv with hv | hv | hv | hv <;> exact yf hv h (by omega)
theorem xn {R:Rl} {v d:D} {m:Int} (hm:2≤m) (hm2:m≤64) (hv:v∈xN a R++[.int m,.int (m + 1)]) (h:Nm v d):Thg a d∧whD d 0 (m - 1)=false:=by
 rcases List.mem_append.mp hv with hv | hv
 ·exact xO (by decide) (by omega) hv h
 ·simp only[List.mem_cons,List.not_mem_nil,or_false] at hv
  rcases hv with hv | hv <;> exact yf hv h (by omega)
def Pk (a:Ad) (v v2:D):Prop:=∃ (x:Str) (d d1 d2 d3:D) (e:XD),v=.tup [.str x,d]∧v2=.tup [d1,d2,d3]∧Od a d1∧Od a d2∧Od a d3∧Due a d1 d2 d3 e∧Tld a e (.tup [.str x,d])∧Thg a d
theorem EN {R:Rl} {m:Int} {d1 d2 d3:D} {r:Int} (hm:2≤m) (hm2:m≤64) (t1:Thg a d1) (t2:Thg a d2) (t3:Thg a d3) (h1:∀ R':Rl,eqW R'.word d1=false) (h2:whD d2 2 64=false) (h3:whD d3 0 (m - 1)=false) (l:0≤r) (u:r < 4) :
  ∃ v v2,atI [D.tup [.str "rule",d1],.tup [.str "number",d2],.tup [.str "place",d3],.tup [.str "number",d2]] r=some v∧atI [D.tup [d1,d2,d3],.tup [.str R.word,d2,d3],.tup [.str R.word,.int m,d3],.tup [.str R.word,d2,.int 0]] r=some v2∧Pk a v v2:=by
 have:r=0∨r=1∨r=2∨r=3:=by omega
 rcases this with rfl | rfl | rfl | rfl
 ·exact⟨_,_,rfl,rfl,_,_,_,_,_,_,rfl,rfl,t1.od,t2.od,t3.od,.rule _ _ h1,.rule _,t1⟩
 ·exact⟨_,_,rfl,rfl,_,_,_,_,_,_,rfl,rfl,.str _,t2.od,t3.od,.num R _ h2,.num _,t2⟩
 ·exact⟨_,_,rfl,rfl,_,_,_,_,_,_,rfl,rfl,.str _,.int _,t3.od,.plc R hm hm2 h3,.plc _,t3⟩
 ·exact⟨_,_,rfl,rfl,_,_,_,_,_,_,rfl,rfl,.str _,t2.od,.int _,.num R _ h2,.num _,t2⟩
theorem yR {k:Nat} {d:D} (h:[D.adr a.eG,.adr a.bH][k]?=some d):∃ f,d=.adr f∧(f=a.eG∨f=a.bH):=by
 match k,h with
 | 0,h=>cases h;exact⟨_,rfl,.inl rfl⟩
 | 1,h=>cases h;exact⟨_,rfl,.inr rfl⟩
 | k + 2,h=>cases h
def CD (a:Ad):S3:=fun Γ Q=>∃ (d:D) (R:Rl) (m:Int),Γ=[some (.ln d),some (.fz (.str R.word)),some (.fz (.int m))]∧Box 10 d∧2≤m∧m≤64∧∀ d',Box 20 d'→Q (.fz (.bl true)) [some (.ln d'),some (.fz (.str R.word)),some (.fz (.int m))]
theorem my (T:Txt w K mg a):aM P w K mg base CX0 9 a.jq a.iM ["_law_stream_here","_law_word","_law_many"] (sp3 K 3 (CD a)):=by
 refine ok3 T.dg.F aN (hbody:=fun cdv A outer s H E hr=>⟨_,_,(ai (aB (i:=3) aN.nd rfl (Or.inl rfl) (a8 (ab qo (ab gX (ab gX (ab bg (ab (kb (P3.opd af)) (ab (a8 (ab af aj)) (ab (cy (ab af aj)) (ab Dc (ab (xF (v:=100000000000000000000000000000) (by decide +kernel) ⟨by decide,by decide,by decide⟩) (ab (ao (by rfl) (ip T) hr.dn (by rfl) T.aY.m T.aY.F.kp T.aY.b (aa (P3.opd (p3v 1)) ae)) aj))))))))))))
   (ai (aB (i:=4) aN.nd rfl (Or.inl rfl) (a8 (ab qo (ab bg (ab bg (ab bg (ab bg (ab bg (ab af (ab (a8 (ab bg aj)) (ab gX (ab (cy (ab bg aj)) aj))))))))))))
   (ai (aB (i:=5) aN.nd rfl (Or.inl rfl) (xI (aX (by rfl) (P3.opd (aJ (bv 4) (P3.opd (a8 (ab (ao (by rfl) (ip T) hr.dn (by rfl) T.aY.m T.aY.F.kp T.aY.b (aa (P3.opd bg) ae)) (ab (ao (by rfl) (ip T) hr.dn (by rfl) T.aY.m T.aY.F.kp T.aY.b (aa (P3.opd (p3v 1)) ae)) aj)))))) (P3.opd (ao (by rfl) (bS T) hr.dn (by rfl) T.aw.m T.aw.F.kp T.aw.b (aa (bv 0) (aa (P3.opd af) ae)))) (fun _ _=>rfl))))
   (ai (aB (i:=6) aN.nd rfl (Or.inl rfl) (xI (aX (by rfl) (P3.opd (aJ (bv 3) (P3.opd (a8 (ab af (ab af (ab af (ab (aJ (P3.opd af) (bv 2)) aj)))))))) (P3.opd (ao (by rfl) (bS T) hr.dn (by rfl) T.aw.m T.aw.F.kp T.aw.b (aa (bv 0) (aa (P3.opd af) ae)))) (fun _ _=>rfl))))
   (ai (aB (i:=7) aN.nd rfl (Or.inl rfl) (xI (aX (by rfl) (P3.opd (aJ (bv 3) (P3.opd (a8 (ab (p3v 2) (ab (aJ (bv 2) (P3.opd af)) aj)))))) (P3.opd (ao (by rfl) (bS T) hr.dn (by rfl) T.aw.m T.aw.F.kp T.aw.b (aa (bv 0) (aa (P3.opd af) ae)))) (fun _ _=>rfl))))
   (ai (aB (i:=8) aN.nd rfl (Or.inl rfl) (ao (by rfl) (bS T) hr.dn (by rfl) T.aw.m T.aw.F.kp T.aw.b (aa (bv 0) (aa (P3.opd af) ae))))
   (ai (aB (i:=9) aN.nd rfl (Or.inl rfl) (aX (by rfl) (P3.opd (a8 (ab (cy (ab bg (ab (p3v 5) aj))) (ab (cy (ab bg (ab (p3v 6) aj))) (ab (cy (ab bg (ab (p3v 7) aj))) (ab (cy (ab bg (ab (p3v 6) aj))) aj)))))) (bv 8) (fun _ _=>rfl)))
   (ai (aB (i:=10) aN.nd rfl (Or.inl rfl) (aX (by rfl) (P3.opd (a8 (ab (cy (ab (p3v 5) (ab (p3v 6) (ab (p3v 7) aj)))) (ab (cy (ab (p3v 1) (ab (p3v 6) (ab (p3v 7) aj)))) (ab (cy (ab (p3v 1) (ab (p3v 2) (ab (p3v 7) aj)))) (ab (cy (ab (p3v 1) (ab (p3v 6) (ab af aj)))) aj)))))) (bv 8) (fun _ _=>rfl)))
   (ai (lC PassesOwn.never rfl (eh (by rfl) (a8 (ab (cF (by rfl) T.cO.m) (ab (cF (by rfl) T.ba.m) aj)))) (bq (i:=11) aN.nd rfl (Or.inl rfl))
   (ai (aB (i:=12) aN.nd rfl (Or.inl rfl) (ao (by rfl) (qr T) hr.dn (by rfl) T.gi.m T.gi.F.kp T.gi.b (aa (P3.opd (p3v 11)) (aa (P3.opd (aX (by rfl) (bv 10) (P3.opd af) (fun _ _=>rfl))) (aa (P3.opd (aX (by rfl) (bv 10) (P3.opd af) (fun _ _=>rfl))) (aa (P3.opd (aX (by rfl) (bv 10) (P3.opd af) (fun _ _=>rfl))) ae))))))
   (ar (cf (P3W.pt (ng (bx D2 (bv 12) (P3.opd qo) (bV _)) (ng (bx (D0 (by rfl) hr) (bv 12) (bv 9) (bV _)) (qk (bx (qN (by rfl) hr) (P3.opd (aO (vd (vf T.ty) (by rfl) (al4 T.qv T.lM T.kh T.kg) T.ty.db) (by rfl) T.z_isinstance (by decide +kernel) (aa (P3.opd (aX (by rfl) (bv 12) (P3.opd af) (fun _ _=>rfl))) (aa (P3.opd (lR (n:="bool") (by rfl) T.z_bool (by decide +kernel))) ae)))) (P3.opd (aO (vd (vf T.ty) (by rfl) (al4 T.qv T.lM T.kh T.kg) T.ty.db) (by rfl) T.z_isinstance (by decide +kernel) (aa (P3.opd (aX (by rfl) (bv 9) (P3.opd af) (fun _ _=>rfl))) (aa (P3.opd (lR (n:="bool") (by rfl) T.z_bool (by decide +kernel))) ae)))) (bV _)))))) (ar (aC gX)) bB))))
   (ar (aC gX))))))))))),fun Γa Q h hl=>?_⟩)
 obtain⟨d,R,m,rfl,hb,hm,hm2,q⟩:=h
 walk_at "m3"
 refine⟨sl2 (by decide),sl2 (by decide),R,rfl,?_⟩
 walk_at "m3"
 refine⟨sl2 (by decide),sl2 (by decide),sl2 (by decide),sl2 (by decide),.sum,rfl,?_⟩
 walk_at "m3"
 refine⟨R,rfl,?_⟩
 walk_at "m3"
 refine⟨sl2 (by decide),sl2 (by decide),_,_,12,rfl,hb,by decide,by decide,by decide,fun r1 b1 l1 u1 hb1=>?_⟩
 walk_at "m3"
 refine pick (p:=fun v=>∀ d,Nm v d→Thg a d∧∀ R':Rl,eqW R'.word d=false) l1 u1 (fun v hv d hd=>wA (R:=R) hv hd) (fun v hv=>?_)
 walk_at "m3"
 intro d1 hd1
 obtain⟨t1,k1⟩:=hv d1 hd1
 walk_at "m3"
 refine⟨sl2 (by decide),sl2 (by decide),_,_,14,rfl,hb1,by decide,by decide,by decide,fun r2 b2 l2 u2 hb2=>?_⟩
 walk_at "m3"
 refine pick (p:=fun v=>∀ d,Nm v d→Thg a d∧whD d 2 64=false) l2 u2 (fun v hv d hd=>zy (R:=R) hm hv hd) (fun v2 hv2=>?_)
 walk_at "m3"
 intro d2 hd2
 obtain⟨t2,k2⟩:=hv2 d2 hd2
 walk_at "m3"
 refine⟨sl2 (by decide),sl2 (by decide),_,_,12,rfl,hb2,by decide,by decide,by decide,fun r3 b3 l3 u3 hb3=>?_⟩
 walk_at "m3"
 refine pick (p:=fun v=>∀ d,Nm v d→Thg a d∧whD d 0 (m - 1)=false) l3 u3 (fun v hv d hd=>xn (R:=R) hm hm2 hv hd) (fun v3 hv3=>?_)
 walk_at "m3"
 intro d3 hd3
 obtain⟨t3,k3⟩:=hv3 d3 hd3
 walk_at "m3"
 refine⟨_,_,4,rfl,hb3,by decide,by decide,by decide,fun r4 b4 l4 u4 hb4=>?_⟩
 obtain⟨v4,v5,e4,e5,x,d0,c1,c2,c3,xd,rfl,rfl,o1,o2,o3,du,tl,t0⟩:=EN (R:=R) hm hm2 t1 t2 t3 k1 k2 k3 l4 u4
 walk_at "m3"
 refine⟨sl2 (by decide),sl2 (by decide),sl2 (by decide),sl2 (by decide),sl2 (by decide),bL.mpr ⟨_,e4,?_⟩⟩
 walk_at "m3"
 refine⟨sl2 (by decide),sl2 (by decide),sl2 (by decide),sl2 (by decide),sl2 (by decide),bL.mpr ⟨_,e5,?_⟩⟩
 walk_at "m3"
 refine⟨sl2 (by decide),g4 (fun k Γ=>∃ s11 s12,Γ=[some (.ln b4),some (.fz (.str R.word)),some (.fz (.int m)),some (.ow (.lst (xN a R))),some (.ow (.lst ([.non,.str "Sum",.str "sum ",.str "guesses",.str "",.str "lea",.int 3,.lst [.str "sum"],.bl true,.tup [.str "half"]]))),some (.fz d1),some (.fz d2),some (.fz d3),some (.fz (.int r4)),some (.fz (.tup [.str x,d0])),some (.fz (.tup [c1,c2,c3])),fo s11,fo s12]) ⟨none,none,rfl⟩ ?_ ?_⟩
 ·rintro k d Γ hd ⟨s11,s12,rfl⟩
  obtain⟨f,rfl,hf⟩:=yR hd
  walk_at "m3"
  refine⟨f,c1,c2,c3,xd,_,rfl,hf,o1,o2,o3,du,tl,?_⟩
  walk_at "m3"
  refine⟨x,x,d0,d0,true,rfl,rfl,t0.eq,?_⟩
  rw[show (!(x == x && true))=false by simp]
  have od:=t0.od
  clear e4 e5 du tl t0
  cases od with
  | obj p c h=>
   walk_at "m3"
   refine⟨h,?_⟩
   walk_at "m3"
   refine⟨h,?_⟩
   walk_at "m3"
   exact⟨some _,some _,rfl⟩
  | bl b=>cases b <;> (walk_at "m3";exact⟨some _,some _,rfl⟩)
  | _=>walk_at "m3";exact⟨some _,some _,rfl⟩
 ·rintro Γ ⟨s11,s12,rfl⟩
  walk_at "m3"
  exact q _ (hb4.up (by decide))
theorem G4:(List.range 63).all (fun k=>[Rl.sum,.half,.guess,.lean].all fun R=>FJ R (k + 2))=true:=by decide +kernel
theorem G5:(List.range 63).all (fun k=>[Rl.sum,.half,.guess,.lean].all fun R=>FK R (k + 2))=true:=by decide +kernel
theorem Fc (R:Rl):R∈[Rl.sum,.half,.guess,.lean]:=by cases R <;> simp
theorem CB (R:Rl) {m:Nat} (h1:2≤m) (h2:m≤64):(mp R (nD m)).length=m∧∀ p:Nat,p < m→rise m (-1) (Rl.sp R m p)=true∧msk (Rl.sp R m p)=gd (mp R (nD m)) p:=by
 have h:=List.all_eq_true.mp (List.all_eq_true.mp G4 (m - 2) (List.mem_range.mpr (by omega))) R (Fc R)
 rw[show m - 2 + 2=m by omega] at h
 simp only[FJ,Bool.and_eq_true,beq_iff_eq,List.all_eq_true,List.mem_range] at h
 exact h
theorem CC (R:Rl) {m:Nat} (h1:2≤m) (h2:m≤64):(mj R (nD m)).length=m∧∀ p:Nat,p < m→rise m (-1) (Rl.bk R m p)=true∧msk (Rl.bk R m p)=gd (mj R (nD m)) p:=by
 have h:=List.all_eq_true.mp (List.all_eq_true.mp G5 (m - 2) (List.mem_range.mpr (by omega))) R (Fc R)
 rw[show m - 2 + 2=m by omega] at h
 simp only[FK,Bool.and_eq_true,beq_iff_eq,List.all_eq_true,List.mem_range] at h
 exact h
theorem xW {m:Nat}:(nD m).length=m:=by unfold nD;simp
theorem wB {v:D} (h:v∈[D.str "sum",.str "half",.str "guess",.str "lean"]):∃ R:Rl,v=.str R.word:=by
 simp only[List.mem_cons,List.not_mem_nil,or_false] at h
 rcases h with rfl | rfl | rfl | rfl
 ·exact⟨.sum,rfl⟩
 ·exact⟨.half,rfl⟩
 ·exact⟨.guess,rfl⟩
 ·exact⟨.lean,rfl⟩
theorem Al {v:D} {r1 r2:Int} (l1:0≤r1) (u1:r1 < 9) (l2:0≤r2) (u2:r2 < 63) (h:v∈[D.int (2 + r1),.int (2 + r2)]):∃ m:Nat,v=.int (m:Int)∧2≤m∧m≤64:=by
 simp only[List.mem_cons,List.not_mem_nil,or_false] at h
 rcases h with rfl | rfl
 ·exact⟨(2 + r1).toNat,by rw[Int.toNat_of_nonneg (by omega)],by omega,by omega⟩
 ·exact⟨(2 + r2).toNat,by rw[Int.toNat_of_nonneg (by omega)],by omega,by omega⟩
theorem Af (T:Txt w K mg a):aM P w K mg base CX0 10 a.yF a.tO ["_law_script"] (sp3 K 1 (Bg 63)):=by
 refine ok3 T.Eh.F ly (hbody:=fun cdv A outer s H E hr=>⟨_,_,(ai (lC PassesOwn.never rfl (bP (by rfl) T.z_range (ab (aO (B4 rfl) (by rfl) T.z_max (by decide +kernel) (aa (P3.opd af) (aa (P3.opd (aO (FL rfl) (by rfl) T.z_min (by decide +kernel) (aa (P3.opd af) (aa (P3.opd (aO (l_ (by rfl)) (by rfl) T.z_len (by decide +kernel) (aa (bv 0) ae))) ae)))) ae))) aj)) (bq (i:=1) ly.nd rfl (Or.inl rfl))
   (ai (aB (i:=2) ly.nd rfl (Or.inl rfl) (ao (by rfl) (ny T) hr.dn (by rfl) T.dW.m T.dW.F.kp T.dW.b (aa (P3.opd (ao (by rfl) (qt T) hr.dn (by rfl) T.gj.m T.gj.F.kp T.gj.b (aa (P3.opd (p3v 0)) (aa (P3.opd (p3v 1)) ae)))) ae)))
   (ai (aB (i:=3) ly.nd rfl (Or.inl rfl) (aX (by rfl) (P3.opd (a8 (ab bg (ab bg (ab bg (ab bg aj)))))) (P3.opd (ao (by rfl) (bS T) hr.dn (by rfl) T.aw.m T.aw.F.kp T.aw.b (aa (bv 2) (aa (P3.opd af) ae)))) (fun _ _=>rfl)))
   (ai (aB (i:=4) ly.nd rfl (Or.inl rfl) (aX (by rfl) (P3.opd (a8 (ab (aJ (P3.opd af) (P3.opd (ao (by rfl) (bS T) hr.dn (by rfl) T.aw.m T.aw.F.kp T.aw.b (aa (bv 2) (aa (P3.opd af) ae))))) (ab (aJ (P3.opd af) (P3.opd (ao (by rfl) (bS T) hr.dn (by rfl) T.aw.m T.aw.F.kp T.aw.b (aa (bv 2) (aa (P3.opd af) ae))))) aj)))) (P3.opd (ao (by rfl) (bS T) hr.dn (by rfl) T.aw.m T.aw.F.kp T.aw.b (aa (bv 2) (aa (P3.opd af) ae)))) (fun _ _=>rfl)))
   (ai (m7 (i:=5) ly.nd rfl rfl rfl (bP (by rfl) T.z_range (ab (p3v 4) aj)) pq (fun _ _ _ _ _=>(bq (i:=0) pq.nd rfl (Or.inl rfl))) (fun _ _ _ _ _=>(C8 (P3.opd af) (bv 0))))
   (ai (cf (cE (bR (ao (by rfl) (jT T) hr.dn (by rfl) T.b7.m T.b7.F.kp T.b7.b (aa (P3.opd (cF (by rfl) T.cO.m)) (aa (P3.opd (p3v 3)) (aa (P3.opd (p3v 4)) (aa (P3.opd (ao (by rfl) (jc T) hr.dn (by rfl) T.bY.m T.bY.F.kp T.bY.b (aa (P3.opd (p3v 3)) (aa (P3.opd (p3v 5)) ae)))) ae))))))) (ar (aC gX)) bB)
   (ai (cf (cE (bR (ao (by rfl) (jT T) hr.dn (by rfl) T.b7.m T.b7.F.kp T.b7.b (aa (P3.opd (cF (by rfl) T.ba.m)) (aa (P3.opd (p3v 3)) (aa (P3.opd (p3v 4)) (aa (P3.opd (ao (by rfl) (jd T) hr.dn (by rfl) T.bZ.m T.bZ.F.kp T.bZ.b (aa (P3.opd (p3v 3)) (aa (P3.opd (p3v 5)) ae)))) ae))))))) (ar (aC gX)) bB)
   (ar (cf (cE (bR (ao (by rfl) (my T) hr.dn (by rfl) T.dg.m T.dg.F.kp T.dg.b (aa (bv 2) (aa (P3.opd (p3v 3)) (aa (P3.opd (p3v 4)) ae)))))) (ar (aC gX)) bB)))))))))
   (ar (aC gX))),fun Γa Q h hl=>?_⟩)
 obtain⟨ns,rfl,hn,q⟩:=h
 walk_at "m3"
 have g1:∀ x y:Int,fmax x y=x∨fmax x y=y:=fun x y=>by unfold fmax;split <;> simp
 have g2:∀ x y:Int,fmin x y=x∨fmin x y=y:=fun x y=>by unfold fmin;split <;> simp
 have b1:=g1 1 (fmin 8 (ns.length:Int))
 have b2:=g2 8 (ns.length:Int)
 refine⟨by omega,by omega,g4 (fun k Γ=>∃ s1 s2 s3 s4 s5,Γ=[some (.fz (.scr ns)),fo s1,fw s2,fo s3,fo s4,fo s5]) ⟨none,none,none,none,none,rfl⟩ ?_ ?_⟩
 ·rintro k0 d Γ hd ⟨s1,s2,s3,s4,s5,rfl⟩
  obtain⟨lt,rfl⟩:=cS hd
  walk_at "m3"
  refine⟨ns,k0,rfl,by omega,fun c=>?_⟩
  walk_at "m3"
  refine⟨c,rfl,fun d hb=>?_⟩
  walk_at "m3"
  refine⟨sl2 (by decide),_,_,4,rfl,hb,by decide,by decide,by decide,fun r1 e1 l1 u1 hb1=>?_⟩
  walk_at "m3"
  refine pick (p:=fun v=>∃ R:Rl,v=.str R.word) l1 u1 (fun v hv=>wB hv) (fun v hv=>?_)
  obtain⟨R,rfl⟩:=hv
  walk_at "m3"
  refine⟨_,_,9,rfl,hb1,by decide,by decide,by decide,fun r2 e2 l2 u2 hb2=>?_⟩
  walk_at "m3"
  refine⟨_,_,63,rfl,hb2,by decide,by decide,by decide,fun r3 e3 l3 u3 hb3=>?_⟩
  walk_at "m3"
  refine⟨sl2 (by decide),_,_,2,rfl,hb3,by decide,by decide,by decide,fun r4 e4 l4 u4 hb4=>?_⟩
  walk_at "m3"
  refine pick (p:=fun v=>∃ m:Nat,v=.int (m:Int)∧2≤m∧m≤64) l4 u4 (fun v hv=>Al l2 u2 l3 u3 hv) (fun v hv=>?_)
  obtain⟨m,rfl,hm,hm2⟩:=hv
  walk_at "m3"
  rw[Int.toNat_natCast]
  refine⟨by omega,by omega,small (by rw[bD];omega),cR (fun k ys Γc=>k≤m∧ys=((List.range k).map fun k=>D.int ((2 ^ k:Nat):Int))∧∃ s,Γc=[fo s]) ⟨Nat.zero_le _,rfl,none,rfl⟩ ?_ ?_⟩
  ·rintro k d ys Γc hd hy ⟨hk,rfl,s,rfl⟩
   obtain⟨lt,rfl⟩:=cS hd
   walk_at "m3"
   refine⟨⟨by omega,by omega,by decide⟩,lt,snoc ?_,some _,rfl⟩
   rw[Int.toNat_natCast,Int.one_mul]
   simp
  ·rintro ys Γc hy ⟨hk,rfl,s,rfl⟩
   rw[bD,show ((List.range m).map fun k=>D.int ((2 ^ k:Nat):Int))=(nD m).map fun n:Nat=>D.int (n:Int) by unfold nD;rw[List.map_map];rfl]
   have lm:=xW (m:=m)
   obtain⟨lp,hp⟩:=CB R hm hm2
   obtain⟨lj,hj⟩:=CC R hm hm2
   generalize nD m=M at lm lp hp lj hj ⊢
   walk_at "m3"
   refine⟨R,M,rfl,by omega,by omega,?_⟩
   walk_at "m3"
   refine⟨a.eG,Rl.sp,R,m,mp R M,rfl,.inl ⟨rfl,rfl⟩,hm,hm2,lp,hp,?_⟩
   walk_at "m3"
   refine⟨R,M,rfl,by omega,by omega,?_⟩
   walk_at "m3"
   refine⟨a.bH,Rl.bk,R,m,mj R M,rfl,.inr ⟨rfl,rfl⟩,hm,hm2,lj,hj,?_⟩
   walk_at "m3"
   refine⟨_,R,m,rfl,hb4.up (by decide),by omega,by omega,fun d' hd'=>?_⟩
   walk_at "m3"
   exact⟨some _,some _,some _,some _,some _,rfl⟩
 ·rintro Γ ⟨s1,s2,s3,s4,s5,rfl⟩
  walk_at "m3"
  exact q _
def pV (K:PySem.W.Frag):Sp:=fun vs H Q _=>∃ (p:Addr) (ns:List Int),vs=[.ref p]∧SqL K H p (ns.map V.int)∧ns.length≤63∧∀ H',Q (.bl true) H'
theorem Du (T:Txt w K mg a):aM P w K mg base CX0 10 a.yF a.tO ["_law_script"] (pV K):=DA (Af T)
local macro_rules | `(tactic| walk_at "bn")=>`(tactic| (intro _ _ _ _ _ _ us hl;first | (have h:=ln0 hl;subst h;rfl) | (obtain⟨_,h⟩:=ln1 hl;subst h;rfl) | (obtain⟨_,_,h⟩:=ln2 hl;subst h;rfl) | (obtain⟨_,_,_,h⟩:=ln3 hl;subst h;rfl) | (obtain⟨_,_,_,_,h⟩:=ln4 hl;subst h;rfl) | (obtain⟨_,_,_,_,_,h⟩:=ln5 hl;subst h;rfl)))
theorem all_mk {l:PySem.W.OpenLaw} {w:World} {K:PySem.W.Frag} {h:Heap} {mg:Str→Option Value} {fa:Addr} (X:K.In h) (G:h.Ns mainGlobals mg) (hfa:mg "law"=some (.ref fa))
  {aE:Addr}
  {aH:Addr}
  {aD:Addr}
  {a9:Addr}
  {ak:Addr}
  {aP:Addr}
  {aU:Addr}
  {bp:Addr}
  {cB:Addr} {es_SPREADS:Array DictEntry} {nd_SPREADS:Nat}
  {bc:Addr} {es_BACK_SPREADS:Array DictEntry} {nd_BACK_SPREADS:Nat}
  {f0 f1 f2 f3 f4 f5 f6 f7 f8 f9 f10 f11 f12 f13 f14 f15 f16 f17 f18 f19 f20 f21 f22 f23 f24 f25 f26 f27 f28 f29 f30 f31 f32 f33 f34 f35 f36 f37 f38 f39 f40:Addr} {d0 d1 d2 d3 d4 d5 d6 d7 d8 d9 d10 d11 d12 d13 d14 d15 d16 d17 d18 d19 d20 d21 d22 d23 d24 d25 d26 d27 d28 d29 d30 d31 d32 d33 d34 d35 d36 d37 d38 d39 d40:FuncData}
  {t_MOST_SIDE:Tok}
  (aC_Guessed:PySem.W.nsIn K mainGlobals "Guessed"=some (some (.ref aE)))
  (pg_Guessed:PySem.W.plainGet K aE Str.empty=true)
  (hd_Guessed:PySem.W.hasDictIn K aE=true)
  (po_Guessed:PySem.W.plainOver K aE=true)
  (sa_Guessed:PySem.W.findIn K (.ref aE) "__setattr__"=some (some (.builtin "object.__setattr__")))
  (mk_Guessed:PySem.W.makesIn K aE=true)
  (kc_Guessed:PySem.W.keepIn K (.ref aE)=true)
  (in_Guessed:PySem.W.findIn K (.ref aE) "__init__"=some (some (.builtin "object.__init__")))
  (aC_Halves:PySem.W.nsIn K mainGlobals "Halves"=some (some (.ref aH)))
  (pg_Halves:PySem.W.plainGet K aH Str.empty=true)
  (hd_Halves:PySem.W.hasDictIn K aH=true)
  (po_Halves:PySem.W.plainOver K aH=true)
  (sa_Halves:PySem.W.findIn K (.ref aH) "__setattr__"=some (some (.builtin "object.__setattr__")))
  (mk_Halves:PySem.W.makesIn K aH=true)
  (kc_Halves:PySem.W.keepIn K (.ref aH)=true)
  (in_Halves:PySem.W.findIn K (.ref aH) "__init__"=some (some (.builtin "object.__init__")))
  (aC_Leaning:PySem.W.nsIn K mainGlobals "Leaning"=some (some (.ref aD)))
  (pg_Leaning:PySem.W.plainGet K aD Str.empty=true)
  (hd_Leaning:PySem.W.hasDictIn K aD=true)
  (po_Leaning:PySem.W.plainOver K aD=true)
  (sa_Leaning:PySem.W.findIn K (.ref aD) "__setattr__"=some (some (.builtin "object.__setattr__")))
  (mk_Leaning:PySem.W.makesIn K aD=true)
  (kc_Leaning:PySem.W.keepIn K (.ref aD)=true)
  (in_Leaning:PySem.W.findIn K (.ref aD) "__init__"=some (some (.builtin "object.__init__")))
  (aC_Sums:PySem.W.nsIn K mainGlobals "Sums"=some (some (.ref a9)))
  (pg_Sums:PySem.W.plainGet K a9 Str.empty=true)
  (hd_Sums:PySem.W.hasDictIn K a9=true)
  (po_Sums:PySem.W.plainOver K a9=true)
  (sa_Sums:PySem.W.findIn K (.ref a9) "__setattr__"=some (some (.builtin "object.__setattr__")))
  (mk_Sums:PySem.W.makesIn K a9=true)
  (kc_Sums:PySem.W.keepIn K (.ref a9)=true)
  (in_Sums:PySem.W.findIn K (.ref a9) "__init__"=some (some (.builtin "object.__init__")))
  (aC_HalvedError:PySem.W.nsIn K mainGlobals "HalvedError"=some (some (.ref ak)))
  (aC_NoNumber:PySem.W.nsIn K mainGlobals "NoNumber"=some (some (.ref aP)))
  (aC_NoPlace:PySem.W.nsIn K mainGlobals "NoPlace"=some (some (.ref aU)))
  (aC_NoRule:PySem.W.nsIn K mainGlobals "NoRule"=some (some (.ref bp)))
  (q_SPREADS:PySem.W.nsIn K mainGlobals "SPREADS"=some (some (.ref cB)))
  (lk_SPREADS:K.lookup cB=some ⟨.type "dict",none,.dict es_SPREADS nd_SPREADS,#[]⟩)
  (kk_SPREADS:PySem.W.KeysLit w.params es_SPREADS.toList)
  (it_SPREADS_sum:PySem.W.nsIn K cB "sum"=some (some (.ref f16)))
  (it_SPREADS_half:PySem.W.nsIn K cB "half"=some (some (.ref f16)))
  (it_SPREADS_guess:PySem.W.nsIn K cB "guess"=some (some (.ref f18)))
  (it_SPREADS_lean:PySem.W.nsIn K cB "lean"=some (some (.ref f17)))
  (q_BACK_SPREADS:PySem.W.nsIn K mainGlobals "BACK_SPREADS"=some (some (.ref bc)))
  (lk_BACK_SPREADS:K.lookup bc=some ⟨.type "dict",none,.dict es_BACK_SPREADS nd_BACK_SPREADS,#[]⟩)
  (kk_BACK_SPREADS:PySem.W.KeysLit w.params es_BACK_SPREADS.toList)
  (it_BACK_SPREADS_sum:PySem.W.nsIn K bc "sum"=some (some (.ref f20)))
  (it_BACK_SPREADS_half:PySem.W.nsIn K bc "half"=some (some (.ref f20)))
  (it_BACK_SPREADS_guess:PySem.W.nsIn K bc "guess"=some (some (.ref f23)))
  (it_BACK_SPREADS_lean:PySem.W.nsIn K bc "lean"=some (some (.ref f21)))
  (F0:FM K ak "__init__" "HalvedError.__init__" b_ f0 d0)
  (F1:FM K aU "__init__" "NoPlace.__init__" cV f1 d1)
  (F2:FM K aP "__init__" "NoNumber.__init__" cK f2 d2)
  (F3:FM K bp "__init__" "NoRule.__init__" dm f3 d3)
  (F4:FN K "is_whole" "is_whole" j_ f4 d4)
  (F5:FM K a9 "word" "Sums.word" i7 f5 d5)
  (F6:FM K aH "word" "Halves.word" gN f6 d6)
  (F7:FM K aE "word" "Guessed.word" fJ f7 d7)
  (F8:FM K aD "word" "Leaning.word" fI f8 d8)
  (F9:FN K "all_rules" "all_rules" iZ f9 d9)
  (F10:FN K "rule_of" "rule_of" lz f10 d10)
  (F11:FN K "many_sums" "many_sums" iY f11 d11)
  (F12:FN K "among" "among" mG f12 d12)
  (F13:FN K "pair_at" "pair_at" lA f13 d13)
  (F14:FN K "guessed_at" "guessed_at" hZ f14 d14)
  (F15:FN K "number_at" "number_at" iX f15 d15)
  (F16:FN K "paired_spread" "paired_spread" eJ f16 d16)
  (F17:FN K "leaning_spread" "leaning_spread" cC f17 d17)
  (F18:FN K "guessed_spread" "guessed_spread" cD f18 d18)
  (F19:FN K "places_of_differences" "places_of_differences" bA f19 d19)
  (F20:FN K "paired_back" "paired_back" gJ f20 d20)
  (F21:FN K "leaning_back" "leaning_back" fE f21 d21)
  (F22:FN K "first_back" "first_back" h_ f22 d22)
  (F23:FN K "guessed_back" "guessed_back" fG f23 d23)
  (F24:FN K "known_spread" "known_spread" fF f24 d24)
  (F25:FN K "known_back_spread" "known_back_spread" cJ f25 d25)
  (F26:FN K "check_row_place" "check_row_place" dk f26 d26)
  (F27:FN K "spread" "spread" m6 f27 d27)
  (F28:FN K "back_spread" "back_spread" gK f28 d28)
  (F29:FN K "_law_cell" "_law_cell" i6 f29 d29)
  (F30:FN K "_law_stream" "_law_stream" gM f30 d30)
  (F31:FN K "_law_take" "_law_take" i5 f31 d31)
  (F32:FN K "_law_masks_parted" "_law_masks_parted" aS f32 d32)
  (F33:FN K "_law_masks_joined" "_law_masks_joined" aT f33 d33)
  (F34:FN K "_law_mixed" "_law_mixed" ij f34 d34)
  (F35:FN K "_law_whole" "_law_whole" ig f35 d35)
  (F36:FN K "_law_listed" "_law_listed" d_ f36 d36)
  (F37:FN K "_law_right" "_law_right" eV f37 d37)
  (F38:FN K "_law_told" "_law_told" i4 f38 d38)
  (F39:FN K "_law_refused" "_law_refused" fH f39 d39)
  (F40:FN K "law" "law" uh f40 d40)
  (k_xt_HalvedError:PySem.W.typeIn K (.ref ak)=some (.type "type"))
  (k_xe_HalvedError:PySem.W.mroIn K ak (.type "BaseException")=some true)
  (k_xo_HalvedError:xoB K ak ak f0 []=true)
  (k_xo_NoNumber:xoB K ak aP f2 ["found"]=true)
  (k_xo_NoPlace:xoB K ak aU f1 ["found"]=true)
  (k_xo_NoRule:xoB K ak bp f3 ["found"]=true)
  (k_xnd:xT [ak,aP,aU,bp]=true)
  (z_ValueError:PySem.W.nsIn K mainGlobals "ValueError"=some none)
  (k_h_rd:PySem.W.readsIn K ak (.type "type")=true)
  (k_h_ga:PySem.W.specialIn K (.ref ak) "__getattribute__"=some (some (.builtin "type.__getattribute__")))
  (k_h_fc:PySem.W.findCls K (.ref ak) (.type "type") "__init__"=some (.val (.ref f0)))
  (q_MOST_SIDE:PySem.W.nsIn K mainGlobals "MOST_SIDE"=some (some (.int 64 t_MOST_SIDE)))
  (es_Sums:PySem.W.mroIn K a9 (.type "str")=some false)
  (ef_Sums:PySem.W.findIn K (.ref a9) "__eq__"=some (some (.builtin "object.__eq__")))
  (ob_Sums:PySem.W.mroIn K a9 (.type "object")=some true)
  (oc_Sums:PySem.W.findIn K (.ref a9) "__class__"=some (some (.builtin "object.__class__")))
  (og_Sums:PySem.W.specialIn K (.builtin "object.__class__") "__get__"=some (some (.builtin "getset_descriptor.__get__")))
  (ot_Sums:PySem.W.takesIn K (.builtin "object.__class__")=some true)
  (y_kb_Sums:PySem.W.kitOne K (.ref a9) (.type "bool")=some false)
  (y_ki_Sums:PySem.W.kitOne K (.ref a9) (.type "int")=some false)
  (es_Halves:PySem.W.mroIn K aH (.type "str")=some false)
  (ef_Halves:PySem.W.findIn K (.ref aH) "__eq__"=some (some (.builtin "object.__eq__")))
  (ob_Halves:PySem.W.mroIn K aH (.type "object")=some true)
  (oc_Halves:PySem.W.findIn K (.ref aH) "__class__"=some (some (.builtin "object.__class__")))
  (og_Halves:PySem.W.specialIn K (.builtin "object.__class__") "__get__"=some (some (.builtin "getset_descriptor.__get__")))
  (ot_Halves:PySem.W.takesIn K (.builtin "object.__class__")=some true)
  (y_kb_Halves:PySem.W.kitOne K (.ref aH) (.type "bool")=some false)
  (y_ki_Halves:PySem.W.kitOne K (.ref aH) (.type "int")=some false)
  (es_Guessed:PySem.W.mroIn K aE (.type "str")=some false)
  (ef_Guessed:PySem.W.findIn K (.ref aE) "__eq__"=some (some (.builtin "object.__eq__")))
  (ob_Guessed:PySem.W.mroIn K aE (.type "object")=some true)
  (oc_Guessed:PySem.W.findIn K (.ref aE) "__class__"=some (some (.builtin "object.__class__")))
  (og_Guessed:PySem.W.specialIn K (.builtin "object.__class__") "__get__"=some (some (.builtin "getset_descriptor.__get__")))
  (ot_Guessed:PySem.W.takesIn K (.builtin "object.__class__")=some true)
  (y_kb_Guessed:PySem.W.kitOne K (.ref aE) (.type "bool")=some false)
  (y_ki_Guessed:PySem.W.kitOne K (.ref aE) (.type "int")=some false)
  (es_Leaning:PySem.W.mroIn K aD (.type "str")=some false)
  (ef_Leaning:PySem.W.findIn K (.ref aD) "__eq__"=some (some (.builtin "object.__eq__")))
  (ob_Leaning:PySem.W.mroIn K aD (.type "object")=some true)
  (oc_Leaning:PySem.W.findIn K (.ref aD) "__class__"=some (some (.builtin "object.__class__")))
  (og_Leaning:PySem.W.specialIn K (.builtin "object.__class__") "__get__"=some (some (.builtin "getset_descriptor.__get__")))
  (ot_Leaning:PySem.W.takesIn K (.builtin "object.__class__")=some true)
  (y_kb_Leaning:PySem.W.kitOne K (.ref aD) (.type "bool")=some false)
  (y_ki_Leaning:PySem.W.kitOne K (.ref aD) (.type "int")=some false)
  (z_bool:PySem.W.nsIn K mainGlobals "bool"=some none)
  (z_enumerate:PySem.W.nsIn K mainGlobals "enumerate"=some none)
  (z_int:PySem.W.nsIn K mainGlobals "int"=some none)
  (z_isinstance:PySem.W.nsIn K mainGlobals "isinstance"=some none)
  (z_len:PySem.W.nsIn K mainGlobals "len"=some none)
  (z_list:PySem.W.nsIn K mainGlobals "list"=some none)
  (z_max:PySem.W.nsIn K mainGlobals "max"=some none)
  (z_min:PySem.W.nsIn K mainGlobals "min"=some none)
  (z_range:PySem.W.nsIn K mainGlobals "range"=some none)
  (z_set:PySem.W.nsIn K mainGlobals "set"=some none)
  (z_sorted:PySem.W.nsIn K mainGlobals "sorted"=some none)
  (y_bb:PySem.W.kitOne K (.type "bool") (.type "bool")=some true)
  (y_bi:PySem.W.kitOne K (.type "bool") (.type "int")=some true)
  (y_bl:PySem.W.kitOne K (.type "bool") (.type "list")=some false)
  (y_bt:PySem.W.kitOne K (.type "bool") (.type "tuple")=some false)
  (y_ib:PySem.W.kitOne K (.type "int") (.type "bool")=some false)
  (y_ii:PySem.W.kitOne K (.type "int") (.type "int")=some true)
  (y_il:PySem.W.kitOne K (.type "int") (.type "list")=some false)
  (y_it:PySem.W.kitOne K (.type "int") (.type "tuple")=some false)
  (y_nb:PySem.W.kitOne K (.type "NoneType") (.type "bool")=some false)
  (y_ni:PySem.W.kitOne K (.type "NoneType") (.type "int")=some false)
  (y_nl:PySem.W.kitOne K (.type "NoneType") (.type "list")=some false)
  (y_nt:PySem.W.kitOne K (.type "NoneType") (.type "tuple")=some false)
  (y_sb:PySem.W.kitOne K (.type "str") (.type "bool")=some false)
  (y_si:PySem.W.kitOne K (.type "str") (.type "int")=some false)
  (y_sl:PySem.W.kitOne K (.type "str") (.type "list")=some false)
  (y_st:PySem.W.kitOne K (.type "str") (.type "tuple")=some false)
  (y_lb:PySem.W.kitOne K (.type "list") (.type "bool")=some false)
  (y_li:PySem.W.kitOne K (.type "list") (.type "int")=some false)
  (y_ll:PySem.W.kitOne K (.type "list") (.type "list")=some true)
  (y_lt:PySem.W.kitOne K (.type "list") (.type "tuple")=some false)
  (y_tb:PySem.W.kitOne K (.type "tuple") (.type "bool")=some false)
  (y_ti:PySem.W.kitOne K (.type "tuple") (.type "int")=some false)
  (y_tl:PySem.W.kitOne K (.type "tuple") (.type "list")=some false)
  (y_tt:PySem.W.kitOne K (.type "tuple") (.type "tuple")=some true)
  (y_db:PySem.W.kitOne K (.type "dict") (.type "bool")=some false)
  (y_di:PySem.W.kitOne K (.type "dict") (.type "int")=some false)
  (y_dl:PySem.W.kitOne K (.type "dict") (.type "list")=some false)
  (y_dt:PySem.W.kitOne K (.type "dict") (.type "tuple")=some false) :
  ∃ (fd:FuncData) (tabs:List (Addr×Str)),(∀ (s:Shared) (v:Value),BindsTo s fd ⟨[v],[]⟩ [("_law_script",v)])∧(∀ p∈tabs,p.1∈([]:List Addr)∧K.lookup p.1=none∧∃ c,PySem.W.CodeHd h c p.1)∧∀ base:Heap,K.In base→base.Ns mainGlobals mg→(∀ P q,tabs.lookup P=some q→qV base P q)→aM l.prog w K mg base CX0 10 fa fd ["_law_script"] (pV K):=by
 have e:=hfa.symm.trans (PySem.W.mg_of X G F40.n)
 cases e
 obtain⟨oc,od,kV,dc,pm,an,cd,ct,sl,rfl,lk,hc⟩:=F40.F.ex
 have T:Txt w K mg ⟨cB,bc,aE,aH,aD,a9,ak,aP,aU,bp,f0,d0,f1,d1,f2,d2,f3,d3,f4,d4,f5,d5,f6,d6,f7,d7,f8,d8,f9,d9,f10,d10,f11,d11,f12,d12,f13,d13,f14,d14,f15,d15,f16,d16,f17,d17,f18,d18,f19,d19,f20,d20,f21,d21,f22,d22,f23,d23,f24,d24,f25,d25,f26,d26,f27,d27,f28,d28,f29,d29,f30,d30,f31,d31,f32,d32,f33,d33,f34,d34,f35,d35,f36,d36,f37,d37,f38,d38,f39,d39,fa,_⟩:=⟨⟨pg_Guessed,hd_Guessed,po_Guessed,sa_Guessed⟩,
  PySem.W.mg_of X G aC_Guessed,
  ⟨mk_Guessed,in_Guessed,kc_Guessed⟩,
  ⟨pg_Halves,hd_Halves,po_Halves,sa_Halves⟩,
  PySem.W.mg_of X G aC_Halves,
  ⟨mk_Halves,in_Halves,kc_Halves⟩,
  ⟨pg_Leaning,hd_Leaning,po_Leaning,sa_Leaning⟩,
  PySem.W.mg_of X G aC_Leaning,
  ⟨mk_Leaning,in_Leaning,kc_Leaning⟩,
  ⟨pg_Sums,hd_Sums,po_Sums,sa_Sums⟩,
  PySem.W.mg_of X G aC_Sums,
  ⟨mk_Sums,in_Sums,kc_Sums⟩,
  PySem.W.mg_of X G aC_HalvedError,
  PySem.W.mg_of X G aC_NoNumber,
  PySem.W.mg_of X G aC_NoPlace,
  PySem.W.mg_of X G aC_NoRule,
  ⟨PySem.W.mg_of X G q_SPREADS,⟨_,_,lk_SPREADS,kk_SPREADS⟩,it_SPREADS_sum,it_SPREADS_half,it_SPREADS_guess,it_SPREADS_lean,trivial⟩,
  ⟨PySem.W.mg_of X G q_BACK_SPREADS,⟨_,_,lk_BACK_SPREADS,kk_BACK_SPREADS⟩,it_BACK_SPREADS_sum,it_BACK_SPREADS_half,it_BACK_SPREADS_guess,it_BACK_SPREADS_lean,trivial⟩,
  fy F0 (by walk_at "bn"),
  fy F1 (by walk_at "bn"),
  fy F2 (by walk_at "bn"),
  fy F3 (by walk_at "bn"),
  fx X G F4 (by walk_at "bn"),
  fy F5 (by walk_at "bn"),
  fy F6 (by walk_at "bn"),
  fy F7 (by walk_at "bn"),
  fy F8 (by walk_at "bn"),
  fx X G F9 (by walk_at "bn"),
  fx X G F10 (by walk_at "bn"),
  fx X G F11 (by walk_at "bn"),
  fx X G F12 (by walk_at "bn"),
  fx X G F13 (by walk_at "bn"),
  fx X G F14 (by walk_at "bn"),
  fx X G F15 (by walk_at "bn"),
  fx X G F16 (by walk_at "bn"),
  fx X G F17 (by walk_at "bn"),
  fx X G F18 (by walk_at "bn"),
  fx X G F19 (by walk_at "bn"),
  fx X G F20 (by walk_at "bn"),
  fx X G F21 (by walk_at "bn"),
  fx X G F22 (by walk_at "bn"),
  fx X G F23 (by walk_at "bn"),
  fx X G F24 (by walk_at "bn"),
  fx X G F25 (by walk_at "bn"),
  fx X G F26 (by walk_at "bn"),
  fx X G F27 (by walk_at "bn"),
  fx X G F28 (by walk_at "bn"),
  fx X G F29 (by walk_at "bn"),
  fx X G F30 (by walk_at "bn"),
  fx X G F31 (by walk_at "bn"),
  fx X G F32 (by walk_at "bn"),
  fx X G F33 (by walk_at "bn"),
  fx X G F34 (by walk_at "bn"),
  fx X G F35 (by walk_at "bn"),
  fx X G F36 (by walk_at "bn"),
  fx X G F37 (by walk_at "bn"),
  fx X G F38 (by walk_at "bn"),
  fx X G F39 (by walk_at "bn"),
  fx X G F40 (by walk_at "bn"),
  ⟨k_xt_HalvedError,k_xe_HalvedError⟩,
  t6 k_xo_HalvedError,
  t6 k_xo_NoNumber,
  t6 k_xo_NoPlace,
  t6 k_xo_NoRule,
  k_xnd,
  PySem.W.mg_none_of X G z_ValueError,
  k_h_rd,
  k_h_ga,
  k_h_fc,
  F7.me,
  F6.me,
  F8.me,
  F5.me,
  ⟨_,PySem.W.mg_of X G q_MOST_SIDE⟩,
  ⟨es_Sums,ef_Sums,ob_Sums⟩,
  ⟨⟨pg_Sums,hd_Sums,po_Sums,sa_Sums⟩,oc_Sums,og_Sums,ot_Sums,ob_Sums,y_kb_Sums⟩,
  ⟨⟨pg_Sums,hd_Sums,po_Sums,sa_Sums⟩,oc_Sums,og_Sums,ot_Sums,ob_Sums,y_ki_Sums⟩,
  ⟨es_Halves,ef_Halves,ob_Halves⟩,
  ⟨⟨pg_Halves,hd_Halves,po_Halves,sa_Halves⟩,oc_Halves,og_Halves,ot_Halves,ob_Halves,y_kb_Halves⟩,
  ⟨⟨pg_Halves,hd_Halves,po_Halves,sa_Halves⟩,oc_Halves,og_Halves,ot_Halves,ob_Halves,y_ki_Halves⟩,
  ⟨es_Guessed,ef_Guessed,ob_Guessed⟩,
  ⟨⟨pg_Guessed,hd_Guessed,po_Guessed,sa_Guessed⟩,oc_Guessed,og_Guessed,ot_Guessed,ob_Guessed,y_kb_Guessed⟩,
  ⟨⟨pg_Guessed,hd_Guessed,po_Guessed,sa_Guessed⟩,oc_Guessed,og_Guessed,ot_Guessed,ob_Guessed,y_ki_Guessed⟩,
  ⟨es_Leaning,ef_Leaning,ob_Leaning⟩,
  ⟨⟨pg_Leaning,hd_Leaning,po_Leaning,sa_Leaning⟩,oc_Leaning,og_Leaning,ot_Leaning,ob_Leaning,y_kb_Leaning⟩,
  ⟨⟨pg_Leaning,hd_Leaning,po_Leaning,sa_Leaning⟩,oc_Leaning,og_Leaning,ot_Leaning,ob_Leaning,y_ki_Leaning⟩,
  PySem.W.mg_none_of X G z_bool,
  PySem.W.mg_none_of X G z_enumerate,
  PySem.W.mg_none_of X G z_int,
  PySem.W.mg_none_of X G z_isinstance,
  PySem.W.mg_none_of X G z_len,
  PySem.W.mg_none_of X G z_list,
  PySem.W.mg_none_of X G z_max,
  PySem.W.mg_none_of X G z_min,
  PySem.W.mg_none_of X G z_range,
  PySem.W.mg_none_of X G z_set,
  PySem.W.mg_none_of X G z_sorted,
  ⟨y_bb,y_bi,y_bl,y_bt,y_ib,y_ii,y_il,y_it,y_nb,y_ni,y_nl,y_nt,y_sb,y_si,y_sl,y_st,y_lb,y_li,y_ll,y_lt,y_tb,y_ti,y_tl,y_tt,y_db,y_di,y_dl,y_dt⟩⟩
 exact⟨_,[],fun s v=>.of_eq rfl,(fun p hp=>by cases hp),fun base _ _ _=>Du T⟩
theorem walk {l:PySem.W.OpenLaw} {q:Program} {loose:List Str} {XP:(Str→Option Value)→Heap→Prop} {YP:World→Heap→Prop} {d:DefRec} {K:Params→PySem.W.Frag} {ts:List Addr} (hn:l.most=some 63) (hdf:d.params.defaults=[])
  (hY:∀ (w:World) (h:Heap),YP w h→(K w.params).In h∧∀ P∈ts,h.get? P=some (PySem.W.tabObj #[]))
  (F:∀ (w:World) (mg:Str→Option Value) (fa:Addr) (h:Heap),(K w.params).In h→h.Ns mainGlobals mg→mg d.name=some (.ref fa)→
   ∃ (fd:FuncData) (tabs:List (Addr×Str)),(∀ (s:Shared) (u:Value),BindsTo s fd ⟨[u],[]⟩ [("_law_script",u)])∧(∀ p∈tabs,p.1∈ts∧(K w.params).lookup p.1=none∧∃ c,PySem.W.CodeHd h c p.1)∧
    ∀ base:Heap,(K w.params).In base→base.Ns mainGlobals mg→(∀ P q,tabs.lookup P=some q→qV base P q)→aM l.prog w (K w.params) mg base CX0 10 fa fd ["_law_script"] (pV (K w.params))) :
  PySem.W.WalkO q loose XP YP l.row.toRowW d [] (fun f vs=>PySem.call f vs):=
 L2.wC (n:=63) (k:=10) (x:="_law_script") (CX:=fun _=>CX0) (sp:=pV) hn (by decide) hdf ⟨rfl,by decide,by decide,rfl⟩ hY F (fun _ _ a ns hl _ hS=>⟨a,ns,rfl,hS,hl,fun _=>rfl⟩) fun _ _ _ _ _ z=>z
end
end K31
local macro_rules | `(tactic| walk_at "fk")=>`(tactic| first | (refine' L2.FN.mk ?k1 ?k2;(case k1=>k_is);(case k2=>refine' L2.yw ?k3 ?k4 ?k5;(case k3=>k_is);(case k4=>k_is);(case k5=>k_is))) | (refine' L2.FM.mk ?k1 ?k6 ?k2;(case k1=>k_is);(case k6=>k_is);(case k2=>refine' L2.yw ?k3 ?k4 ?k5;(case k3=>k_is);(case k4=>k_is);(case k5=>k_is))))
set_option genInjectivity false in
set_option genSizeOf false in
structure PySem.W.Fast:Prop where
 (tw9907036507316855359 tw14096717526677862481 tw15572715262075583342 tw4367620451653222497 tw14577842469420131789 tw8814197939582013395 tw9327291553560399171 tw16901478391507516988 tw11473216352677574280 tw100272713614875544 tw6770785304461407506 tw9370170750944094894 tw15292567875417599003 tw4178042202799926541 tw5403948369952428114 tw15088164768125118919 tw14181853639834370777 tw1407587226114610711 tw17645409071395274324 tw15482207142051584068 tw15260146472592586547 tw10875605392269929629 tw5272066938666677331 tw11289118289721739538 tw9902866215591848495 tw16571336045801369036 tw2192434056290016281 tw9738227041070366304 tw17087879648871541254 tw17129909908367082683 tw15129052039823181880 tw6668149553963711213 tw6818680896282309234 tw6998392094469148508 tw4147176240917020447 tw17815186110828149981 tw5717679704614752171 tw11968575518960820103 tw14071752627239940734 tw9574759117481581735 tw3603380477711965127 tw7403563967555084281 tw16277491670021867328 tw1169808177868976530 tw11357700713561258393 tw3154016174037083262 tw6423936061121087151 tw17934516140390324914 tw18406053299274014151 tw7582367374604901824 tw12781321042751692823 tw12363480482004698987 tw4922323216932942800 tw13638215097548573984 tw18163682001946645681 tw13747978662671656428 tw16220389984401669058 tw14713758247521547881 tw9139007896246593306 tw2632740806233488755 tw4140751266823474638 tw5851652716782620079 tw14297430811542247114 tw8011127528913667283 tw13178003197555496874 tw13063904557786560758 tw3754385009954660229 tw13860289115224155475 tw5150514681312830805 tw14552426444979583573 tw15807734316372723251 tw3619892170316985590 tw9275523081380608535 tw5163342848144076299 tw12845126437580641354 tw488695974996495533 tw5496288274236971235 tw976654171137508406 tw11584398064809547165 tw6139494550834084761 tw7844515332662976772 tw9206733860778245812 tw16054831242315159133 tw12587034921965704830 tw1776708780313188852 tw5500107880378623659 tw18103106004503927681 tw13618839583538672551 tw11742019048396750273 tw10706843442486497011 tw871406030286211770 tw17785114877197186966 tw1941482508878194285 tw16248121726218045743 tw7506794881649544614 tw17733776557344813960 tw16588517440031550028 tw3228336104377307960 tw8361786291801777332 tw2272135074314549265 tw16772915598105984464 tw3785659540360651857 tw4251052334836095800 tw7305239262505409322 tw16690583903979444282 tw3951560898036375318 tw1018162325387992143 tw15359736171011009256 tw9384780127610321118 tw14262458387327426735 tw18081071001576712711 tw4015981305345350799 tw1671361064590745478 tw1634737928108997321 tw11966588018498215172 tw1681673304284225553 tw16932749187873004168 tw10446998058809986271 tw528679286576204394 tw2075797661715262746 tw14707174636933073677 tw1839012580839526773 tw12820018250595696966 tw9403535082037583968 tw16603586817269270182 tw16209740571570133629 tw9055320849500412360 tw10899654207612836681 tw16594178986661485100 tw7903961083409847358 tw3505472512641759064 tw4819067584362213479 tw4571302718735936276 tw5795399385915114399 tw4083194115299904481 tw18264603051852627440 tw7358791714366495143 tw16858757919449992836 tw9537983236384283272 tw658091283959727429 tw4636927019869078412 tw13032228202472057503 tw10110655698364799531 tw3458543023042296980 tw6189645057451406376 tw2624241263485720652 tw12087858854678617417 tw12209180838217257595 tw10144672061063670923 tw4720529224393995437 tw6905299547979748518 tw10353598677038282556 tw12932789530560121471 tw8039911890546693054 tw12811285743250934988 tw6879019495099626829 tw11962749766624965348 tw13175313061599956194 tw15645917810590146118 tw12375676643383726476 tw1338162525308116836 tw12048187089564328294 tw6705023962165183853 tw6838287020428633762 tw7618905407038994648 tw9891364686711386035 tw6697056319935191224 tw13819221339026828999 tw16065068078453840197 tw9371995191469895966 tw74172715527783187 tw4445628405711181299 tw7810753605020527498 tw8623076630954179611 tw14744167670646813635 tw13113253343449002728 tw6225536815135678369 tw8503446864071658690 tw16831638179853119673 tw5774015091364035132 tw2879678872348929573 tw7742066808997497124 tw6586134247846226561 tw12640336129879046575 tw12264716424274597962 tw4562873382712095230 tw2725136365103703297 tw5404108147784991248 tw6448353418220377224 tw891498933817351770 tw10867486415915688701 tw7327507875563109642 tw5272915132613552248 tw16742507763345326411 tw3808702069254401760 tw17284276936017183371 tw1055915748724739691 tw9798594445246348195 tw5663574554250267549 tw4419824609551262438 tw7148956599264976075 tw517801775535638171 tw14822450874351962651 tw9970315392321663929 tw3649663885210630575 tw4032073747955756419 tw18433761312854731878 tw3955021114800433679 tw3255079467408916225 tw11259821753305940192 tw10409427841628031009 tw4024657848341977934 tw6527358888666349561 tw8533151323023661790 tw4332294763415309149 tw14021770627085366544 tw5731296713027684765 tw14719666076580426728 tw10764012502656487866 tw10627346038133329592 tw347864621736390445 tw18160587493414299953 tw1744175641761906947 tw205172683685349047 tw14311145479875528676 tw14735704855874464487 tw13037993638082271689 tw13106853491183141720 tw2480919335816416075 tw11691996451398963629 tw1253810007412314768 tw16038643665496368661 tw12126973077295469636 tw9229416147390619489 tw11539111365833032351 tw14063682742783019602 tw9404964917628412672 tw4435963598949295658 tw4543393235655964696 tw12239507352288271692 tw9018587736252440780 tw2507518510500998128 tw9434148733381277975 tw18309954976003224473 tw15841318685837689586 tw2274775657023054406 tw920199380879264426 tw11579189184248379583 tw8526870289944238046 tw13786808147402930178 tw13979855548173106472 tw2219646259011029805 tw10969926578246582191 tw76975029141967911 tw5740250720573278087 tw13828687412532270195 tw14573006320303582121 tw841523552066897532 tw15763797978722049127 tw14378722207299406677 tw6054564155727049545 tw16964226967810151352 tw16333259420803188173 tw14205095718658268106 tw11737280740391832176 tw3422382701785990127 tw15473772533207209968 tw15661219488571204539 tw7962777290120104000 tw13845758329486613931 tw14571723321583603004 tw133982224779823414 tw13300064755468879847 tw896968466166479310 tw8348054798891302228 tw15231781376817289322 tw16620281042594194433 tw4667526899355460153 tw12046476514472975803 tw5012672716251102235 tw10085028090846898454 tw16164986821668292771 tw1165860569769562621 tw2965493755302487855 tw12663565623147358519 tw267920449413483952 tw9748514560366264568 tw5067780407014963956 tw17233131889855086124 tw1371943096194570644 tw13015469569504170069 tw6090022105979866422 tw5756693665023124794 tw17430518420891867546 tw7574752064034358206 tw17983973065060816672 tw11175473175753483051 tw8445293109812930186 tw15809281934748318840 tw10041169001981783586 tw10498377745997058333 tw11444947201690345461 tw11778540983924341011 tw15732507089844463005 tw18059239404973045824 tw8389126096690765084 tw7304098388112878218 tw11950504139378583395 tw4193779229728978260 tw10110002436782412106 tw3425865933639535993 tw6472706239370032249 tw1179826758992703 tw5836736792479054118 tw7531377678007416431 tw2894823866187558415 tw16963188939933109569 tw897655147827354828 tw517526978654050510 tw11377620477807667777 tw7470586956066991126 tw3716427806641900440 tw39561057625393962 tw9368581751956886857 tw4074554227297768459 tw2161028441509860953 tw11712072752053411861 tw2053593795348853907 tw18086367066938620485 tw2918139515093849111 tw14883277412265640646 tw6572867255018409548 tw3745487322947258517 tw8610775463177928502 tw5648813043364666538 tw1818389038378060252 tw15892408658265450320 tw5350862869120017280 tw13013871060741558543 tw15900482289647876537 tw6334884510447828800 tw23818140779736943 tw4037592016998792345 tw14904657348615418004 tw12913295150649454533 tw13593882073024217090 tw5600538983896069437 tw8785727584199098017 tw7856943686351765612 tw8616957651387856911 tw1286074138469937443 tw1205380188965305656 tw7789765146000794042 tw8556317734097497485 tw4059026547393393078 tw7840545763309277158 tw10374046773040171057 tw17223152615508273488 tw5406411912883657005 tw11393201084315599579 tw2770910847071998326 tw17961927297753973814 tw13366044554940932035 tw792955849585053319 tw12197191225913306691 tw1892351139775744651 tw7988809137032335768 tw5440545828544110077 tw5989772658920180499 tw6304041150022803131 tw16118465566074205133 tw645871742978861616 tw5771700903470148859 tw13074912522236521687 tw13242394274246717929 tw16663557937533006076 tw11043068796283829240 tw2719026820623259490 tw16382228409029200253 tw17651373459879317961 tw7319485728123350902 tw5492396943492864316 tw2805356977465290982 tw13917681559568091729 tw15799545084762412141 tw2359422502559644227 tw5493913302477358446 tw983210694391725946 tw3664756785027954177 tw8367564856942013286 tw15805658865302883688 tw7735564734842908976 tw10140110227053726464 tw1320591465058240274 tw10475241908730763323 tw6493620610299190822 tw12713771602562566076 tw15149135294210931625 tw14939432824788036651 tw17711172480433989855 tw16616245590201599640 tw5541451732786346605 tw11006880941343619538 tw12275869870439556475 tw3477728874127565864 tw2873328574323090289 tw3966348152416781765 tw5875420028306966896 tw12819073457430886629 tw13030026708075594852 tw1701622343118282900 tw14312257310843307680 tw16326946616454867758 tw6119990412590665541 tw16221497137907548502 tw7270792101948736465 tw3005924010531338316 tw8646038945590094052 tw16267724802350884537 tw5074007382070385427 tw2023706365443388460 tw6543778439947532833 tw15105135422367872560 tw6385378124413700664 tw4428346893838621213 tw9471972580775671675 tw6678160225263502161 tw8121470457723916701 tw7244696384150704199 tw8234421623418816461 tw13980776266625158321 tw9930407195685813469 tw13541992134093395815 tw12138646836903540923 tw9648145700720400651 tw13663468998691354331 tw3905998901817886766 tw6013014772967802354 tw16336876430807334450 tw9255098620416675271 tw17643774406228826075 tw17891494758149172018 tw16044747028295993639 tw6350673999436164667 tw13460710520967974331 tw14611814843374001837 tw17460588267860204114 tw15523515258912180973 tw13573871517363280088 tw11145733883389978482 tw12075994900709919166 tw3506299478249325454 tw5088862026993660429 tw11413373776892542520 tw2004937097265284364 tw9655878626294648728 tw1439227168069147422 tw4567602097843063054 tw3856564491076684954 tw16255126242449384871 tw14964260518852700627 tw8911012402318935482 tw14100327150314281356 tw2536653274835378537 tw5646048998911907999 tw15694405458627552979 tw2038638652991360920 tw15221215277432125336 tw15677789696231423455 tw17421091538236743124 tw11126859384303888911 tw283561588566914516 tw295032101074566924 tw14438072653481984552 tw1873412726480385869 tw18057830946380553176 tw16954279075633894111 tw3539330833507426607 tw17178805607918629039 tw16014639516391836436 tw11808888735476924416 tw3350670890926777535 tw11983005743173088216 tw3897490554037046018 tw10301269421224570206 tw8990155946137464172 tw10358314967200410708 tw10372296299440706225 tw7877124371382439057 tw3636342045266810613 tw983502294812323233 tw12689391405011287650 tw16657534206216858433 tw14749767987374529474 tw632079161510818136 tw15177427644110598817 tw3947024825326561269 tw17018282834384454657 tw195331273604347468 tw10801679424948030444 tw17318871363458268981 tw16961704503847184486 tw11674231458607279157 tw16049190730929160513 tw4504266105369220843 tw12336865772612282636 tw17022120694042687321 tw7280686391840241977 tw10237714929119280572 tw12853188676364583734 tw5876253799828548817 tw11451557277662803153 tw5538376678028951651 tw10952634724138666928 tw14451180741026991574 tw4236908647576129813 tw6065285212580739647 tw9193920180649670434 tw14376115348321216806 tw16324522675229839370 tw1548094757308076764 tw8276525354918480054 tw5010831826862425474 tw9007468372357870007 tw5794711651523501133 tw13619872260476033101 tw8302725072808688855 tw11256480569557509272 tw12773111015991552793 tw9949313383705135865 tw5921228572689534007 tw5938108096699830076 tw10491904280324551057 tw15771442984473860873 tw9970687594164485367 tw15857213697512756471 tw16375915531824795133 tw3870857277658564106 tw4018188172442814436 tw15591784406693226986 tw15843322594346982084 tw3367090485843927812 tw11508426575160733350 tw15663378349705688905 tw13807084995073803684 tw18284886526107695466 tw6319792389872199298 tw12658070241660361515 tw4381070224980116134 tw10457708529678918051 tw10575029013855942307 tw2265659449441831013 tw385515977794985157 tw11902150289878305753 tw10631345536292601221 tw8081428957584482661 tw12217904873444324709 tw5297919255484201277 tw5886102924366112197 tw9386570249687660621 tw10144807871596793528 tw16918144432077583365 tw16019192467965125283 tw16132950035397660703 tw6602385628701603665 tw15640288942963015705:True)
open PySem PySem.W PyProof.Rows
set_option maxRecDepth 100000 in
set_option maxHeartbeats 0 in
theorem PySem.Challenge.cw_halvedpictures_k31_spreads_of_rows_holds : PySem.Challenge.rw_halvedpictures_k31_spreads_of_rows.Holds := by
 w_on;o_law;k_head;(case hw=>w_witness2)
 k_fill
 refine K31.walk (ts:=[]) (l:=PySem.Challenge.rw_halvedpictures_k31_spreads_of_rows) rfl rfl (fun w h Y=>⟨PySem.W.kIn_of Y,(fun _ z=>by cases z)⟩) ?F
 case F=>
  intro w mg fa h KX G hmg
  refine' K31.all_mk KX G hmg ?aC_Guessed ?pg_Guessed ?hd_Guessed ?po_Guessed ?sa_Guessed ?mk_Guessed ?kc_Guessed ?in_Guessed ?aC_Halves ?pg_Halves ?hd_Halves ?po_Halves ?sa_Halves ?mk_Halves ?kc_Halves ?in_Halves ?aC_Leaning ?pg_Leaning ?hd_Leaning ?po_Leaning ?sa_Leaning ?mk_Leaning ?kc_Leaning ?in_Leaning ?aC_Sums ?pg_Sums ?hd_Sums ?po_Sums ?sa_Sums ?mk_Sums ?kc_Sums ?in_Sums ?aC_HalvedError ?aC_NoNumber ?aC_NoPlace ?aC_NoRule ?q_SPREADS ?lk_SPREADS ?kk_SPREADS ?it_SPREADS_sum ?it_SPREADS_half ?it_SPREADS_guess ?it_SPREADS_lean ?q_BACK_SPREADS ?lk_BACK_SPREADS ?kk_BACK_SPREADS ?it_BACK_SPREADS_sum ?it_BACK_SPREADS_half ?it_BACK_SPREADS_guess ?it_BACK_SPREADS_lean ?F0 ?F1 ?F2 ?F3 ?F4 ?F5 ?F6 ?F7 ?F8 ?F9 ?F10 ?F11 ?F12 ?F13 ?F14 ?F15 ?F16 ?F17 ?F18 ?F19 ?F20 ?F21 ?F22 ?F23 ?F24 ?F25 ?F26 ?F27 ?F28 ?F29 ?F30 ?F31 ?F32 ?F33 ?F34 ?F35 ?F36 ?F37 ?F38 ?F39 ?F40 ?k_xt_HalvedError ?k_xe_HalvedError ?k_xo_HalvedError ?k_xo_NoNumber ?k_xo_NoPlace ?k_xo_NoRule ?k_xnd ?z_ValueError ?k_h_rd ?k_h_ga ?k_h_fc ?q_MOST_SIDE ?es_Sums ?ef_Sums ?ob_Sums ?oc_Sums ?og_Sums ?ot_Sums ?y_kb_Sums ?y_ki_Sums ?es_Halves ?ef_Halves ?ob_Halves ?oc_Halves ?og_Halves ?ot_Halves ?y_kb_Halves ?y_ki_Halves ?es_Guessed ?ef_Guessed ?ob_Guessed ?oc_Guessed ?og_Guessed ?ot_Guessed ?y_kb_Guessed ?y_ki_Guessed ?es_Leaning ?ef_Leaning ?ob_Leaning ?oc_Leaning ?og_Leaning ?ot_Leaning ?y_kb_Leaning ?y_ki_Leaning ?z_bool ?z_enumerate ?z_int ?z_isinstance ?z_len ?z_list ?z_max ?z_min ?z_range ?z_set ?z_sorted ?y_bb ?y_bi ?y_bl ?y_bt ?y_ib ?y_ii ?y_il ?y_it ?y_nb ?y_ni ?y_nl ?y_nt ?y_sb ?y_si ?y_sl ?y_st ?y_lb ?y_li ?y_ll ?y_lt ?y_tb ?y_ti ?y_tl ?y_tt ?y_db ?y_di ?y_dl ?y_dt
  (case aC_Guessed | pg_Guessed | hd_Guessed | po_Guessed | sa_Guessed | mk_Guessed | kc_Guessed | in_Guessed | aC_Halves | pg_Halves | hd_Halves | po_Halves=>k_is)
  (case sa_Halves | mk_Halves | kc_Halves | in_Halves | aC_Leaning | pg_Leaning | hd_Leaning | po_Leaning | sa_Leaning | mk_Leaning | kc_Leaning | in_Leaning=>k_is)
  (case aC_Sums | pg_Sums | hd_Sums | po_Sums | sa_Sums | mk_Sums | kc_Sums | in_Sums | aC_HalvedError | aC_NoNumber | aC_NoPlace | aC_NoRule=>k_is)
  (case q_SPREADS | lk_SPREADS=>k_is)
  (case kk_SPREADS=>k_keys)
  (case it_SPREADS_sum | it_SPREADS_half | it_SPREADS_guess | it_SPREADS_lean | q_BACK_SPREADS | lk_BACK_SPREADS=>k_is)
  (case kk_BACK_SPREADS=>k_keys)
  (case it_BACK_SPREADS_sum | it_BACK_SPREADS_half | it_BACK_SPREADS_guess | it_BACK_SPREADS_lean=>k_is)
  (case F0 | F1 | F2 | F3 | F4 | F5 | F6 | F7 | F8 | F9 | F10 | F11=>walk_at "fk")
  (case F12 | F13 | F14 | F15 | F16 | F17 | F18 | F19 | F20 | F21 | F22 | F23=>walk_at "fk")
  (case F24 | F25 | F26 | F27 | F28 | F29 | F30 | F31 | F32 | F33 | F34 | F35=>walk_at "fk")
  (case F36 | F37 | F38 | F39 | F40=>walk_at "fk")
  (case k_xt_HalvedError | k_xe_HalvedError | k_xo_HalvedError | k_xo_NoNumber | k_xo_NoPlace | k_xo_NoRule | k_xnd=>first | k_is | kernel_rfl)
  (case z_ValueError=>k_is)
  (case k_h_rd | k_h_ga | k_h_fc=>first | k_is | kernel_rfl)
  (case q_MOST_SIDE | es_Sums | ef_Sums | ob_Sums | oc_Sums | og_Sums | ot_Sums=>k_is)
  (case y_kb_Sums | y_ki_Sums=>kit_is)
  (case es_Halves | ef_Halves | ob_Halves | oc_Halves | og_Halves | ot_Halves=>k_is)
  (case y_kb_Halves | y_ki_Halves=>kit_is)
  (case es_Guessed | ef_Guessed | ob_Guessed | oc_Guessed | og_Guessed | ot_Guessed=>k_is)
  (case y_kb_Guessed | y_ki_Guessed=>kit_is)
  (case es_Leaning | ef_Leaning | ob_Leaning | oc_Leaning | og_Leaning | ot_Leaning=>k_is)
  (case y_kb_Leaning | y_ki_Leaning=>kit_is)
  (case z_bool | z_enumerate | z_int | z_isinstance | z_len | z_list | z_max | z_min | z_range | z_set | z_sorted=>k_is)
  (case y_bb | y_bi | y_bl | y_bt | y_ib | y_ii | y_il | y_it | y_nb | y_ni | y_nl | y_nt=>kit_is)
  (case y_sb | y_si | y_sl | y_st | y_lb | y_li | y_ll | y_lt | y_tb | y_ti | y_tl | y_tt=>kit_is)
  (case y_db | y_di | y_dl | y_dt=>kit_is)
